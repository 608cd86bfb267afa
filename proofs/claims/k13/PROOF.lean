import PyProof.Rows.All
import KE.KNestM
import Wide.FinOn
import KE.KItem
import PyProof.EqAt
import PyProof.EqKinds
import PyProof.TupleCall
import PyProof.ZipIter
import PyProof.WalksMore
import PyProof.CompFree
import PyProof.NeKinds
import KE.KRevIter
import PyProof.Rows.Range3
import KE.KIntText
import OpenK.KOwn
import PyProof.NsDelKeeps
import KE.KIsAll
import PyProof.CompMap
import PyProof.Cells
import PyProof.ConsumeWalk
import PyProof.SumWalk
import PyProof.Rows.SortShell
import PyProof.MeetsStr
import PyProof.StrOps2
import PyProof.DictWalks
import PyProof.Rows.SetFrom
import PyProof.SetRoads
import PyProof.ListRange
import PyProof.ListNew
import PyProof.ExcInit
import PyProof.InstStoreFacts
import PyProof.LayNew
import PySem.Challenge.RW_partsmith_k13_lengths_of_bars
local macro_rules|`(tactic|omega)=>`(tactic|lia)
local macro_rules|`(tactic|ext)=>`(tactic|omega)
local macro_rules|`(())=>`(by omega)
local macro_rules|`(∅)=>`(by decide)
local macro_rules|`(↑$s)=>`(($s).heap.objs.size)
local macro_rules|`($a <|> $b)=>`(autoParam $a $b)
local macro_rules (kind:=«term{_}»)|`({$xs,*})=>`(⟨$xs,*⟩)
local macro_rules|`(⇑$x)=>`(($x).length)
def tpt:Nat->Lean.Term->Lean.MacroM (Lean.TSyntax `rcasesPat)
|0,_=>Lean.Macro.throwUnsupported
|n+1,p=>match p with
 |`(⟨$ps,*⟩)=>do let qs<-ps.getElems.mapM (tpt n);`(rcasesPat|⟨$[$qs],*⟩)
 |`($i:ident)=>`(rcasesPat|$i:ident)
 |_=>`(rcasesPat|_)
local macro_rules|`(tactic|let $d:letDecl)=>`(tactic|have $d:letDecl)
local macro_rules|`(tactic|let $p:term:=$v:term)=>do let q<-tpt 9 p;`(tactic|obtain $q:rcasesPat:=$v)
set_option compiler.extract_closed false
set_option Elab.async false
set_option linter.all false
set_option maxRecDepth 100000
set_option maxHeartbeats 8000000
def qa_1(h:True:=by first | exact .inl rfl | exact .inr rfl | assumption):=h
def qa_:=qa_1._auto_1
def qb_1(h:True:=by decide):=h
def qb_:=qb_1._auto_1
def qc_1(h:True:=by first | exact Ct _ (by decide) (by decide) | rfl):=h
def qc_:=qc_1._auto_1
def qd_1(h:True:=by intro _;rfl):=h
def qd_:=qd_1._auto_1
def qe_1(h:True:=by rfl):=h
def qe_:=qe_1._auto_1
def qf_1(h:True:=by first | exact Or.inl rfl | exact Or.inr (Or.inl rfl) | exact Or.inr (Or.inr rfl)):=h
def qf_:=qf_1._auto_1
def qg_1(h:True:=by exact fun _ _=>rfl):=h
def qg_:=qg_1._auto_1
def qh_1(h:True:=by intro vs H Q E h;first | (obtain⟨_,rfl,_⟩:=h;rfl) | (cases h;subst_vars;rfl)):=h
def qh_:=qh_1._auto_1
def qi_1(h:True:=by decide +kernel):=h
def qi_:=qi_1._auto_1
def qj_1(h:True:=by first | exact Or.inl rfl | exact Or.inr rfl):=h
def qj_:=qj_1._auto_1
def qk_1(h:True:=by repeat' (first | exact trivial | exact .inl rfl | exact rfl | constructor)):=h
def qk_:=qk_1._auto_1
def ql_1(h:True:=by k_is):=h
def ql_:=ql_1._auto_1
def qm_1(h:True:=by intros;rfl):=h
def qm_:=qm_1._auto_1
def qn_1(h:True:=by k_exc):=h
def qn_:=qn_1._auto_1
def za:=@List.length_map
def zb:=@List.getElem?_eq_getElem
def zc:=@decide_eq_false
def zd:=@decide_eq_true
def ze:=@List.length_append
def zf:=@List.map_cons
def zg:=@List.map_append
def zh:=@Nat.le_refl
def zj:=@List.mem_cons_of_mem
def zk:=@List.mem_cons_self
def zm:=@Int.emod_lt_of_pos
def zo:=@List.length_cons
def zr:=@Int.emod_nonneg
def zt:=@List.getElem?_eq_some_iff
def zv:=@List.mem_singleton
def zw:=@List.map_map
def zy:=@List.mem_of_getElem?
def zA:=@List.mem_cons
def zB:=@List.not_mem_nil
def zC:=@List.append_assoc
def zD:=@List.mem_append
def zE:=@List.mem_map
def zF:=@List.mem_append_right
def zG:=@List.mem_append_left
def zH:=@List.getElem?_map
def zI:=@Bool.false_ne_true
def zJ:=@Nat.le_trans
def zK:=@List.take_length
def zL:=@Bool.and_eq_true
def zM:=@List.mem_map_of_mem
def zN:=@List.length_take
def zO:=@List.length_range
def zP:=@List.nodup_append
def zQ:=@List.append_nil
def zR:=@Int.ediv_nonneg
def zS:=@List.foldl_append
def zT:=@List.getElem?_append_right
def zU:=@List.size_toArray
def zV:=@Nat.lt_of_lt_of_le
def zW:=@List.nodup_cons
def zX:=@of_decide_eq_true
def zY:=@Nat.lt_irrefl
def zZ:=@Nat.zero_le
def z0:=@Nat.le_of_lt
def z9:=@Nat.ne_of_gt
def ya:=@Nat.ne_of_lt
def yb:=@Option.some.inj
def yc:=@List.getElem_mem
def yd:=@List.map_nil
def ye:=@List.any_eq_true
def yf:=@List.all_eq_true
def yg:=@List.lookup_cons
def yh:=@List.length_pos_iff
def yi:=@List.length_eq_zero_iff
def yj:=@PySem.wpAny_bind
def yk:=@PySem.Heap.get?_push_of_some
def ym:=@PySem.wpAny_pure
def yn:=@PySem.Heap.get?_push_size
def yo:=@PySem.Heap.lt_size
def yp:=@PySem.Heap.get?_update_other
def yq:=@PySem.Heap.get?_update_self
abbrev yr:=PySem.W.Frag
def yt:=@PySem.sizeLine_eq
def yu:=@PySem.F.plainAttrs_list
def yv:=@PySem.F.type_list_append
def yw:=@PySem.F.slot_list_append
def yx:=@PySem.F.plainAttrs_str
def yy:=@PySem.F.type_str_join
def yz:=@PySem.F.slot_str_join
def yA:=@PySem.F.type_str_split
def yB:=@PySem.F.slot_str_split
def yC:=@Int.eq_ofNat_of_zero_le
def yD:=@PyProof.Rows.callWith_type1
def yE:=@if_neg
def yF:=@if_pos
def yG:=@PySem.PassesOwn.never
def yH:=@Array.length_toList
def yI:=@List.mem_range
def yJ:=@List.find?_cons
def yK:=@Bool.false_and
def yL:=@or_false
def yM:=@Bool.true_and
def yN:=@List.zip_cons_cons
def yO:=@List.filter_append
def yP:=@PySem.wpAny_callSpecial?_slot
def yQ:=@congrArg
def yR:=@PySem.wpAny_field
def yS:=@Int.le_of_lt
def yT:=@PySem.wpAny_call_entry
def yU:=@PySem.wpAny_newObj_type
def yV:=@PySem.wpAny_mono
def yW:=@PySem.wpAny_truthy_bool
def yX:=@List.length_filter_le
def yY:=@Array.getElem?_toList
def yZ:=@PySem.Heap.size_push
def y0:=@PySem.W.kia_one
def y6:=@Option.map_some
def y7:=@List.length_nil
def y8:=@PySem.wpAny_Call_Name_kw
def y9:=@List.any_cons
def xa:=@PySem.wpAny_seqItems
def xb:=@List.take_add_one
def xc:=@List.take_of_length_le
def xg:=@List.map_congr_left
def xh:=@Int.mul_pos
def xi:=@List.length_zip
def xj:=@List.length_drop
def xk:=@Int.mul_comm
def xl:=@beq_eq_false_iff_ne
def xm:=@Nat.lt_trans
def xn:=@Nat.lt_or_ge
def xo:=@PySem.wpAny_holding
def xp:=@PySem.wpAny_setField_rec
def xq:=@PySem.F.slot_zip_next
def xr:=@Bool.eq_iff_iff
def xt:=@Option.some.injEq
def xu:=@PyProof.Rows.slot_tuple_getitem
def xw:=@Nat.lt_succ_self
def xx:=@PyProof.Rows.part_short
def xy:=@PySem.wpAny_typeNameOfWhole_keyiter
def xA:=@PySem.codeAny_mono
def xB:=@List.find?_eq_none
def xC:=@PySem.wpAny_passesOwn
def xD:=@PySem.codeAny_builtin
def xE:=@List.dropLast_concat_getLast
def xF:=@PySem.F.slot_dict_keyiterator_next
def xG:=@PySem.Paired.length
def xH:=@Int.toNat_natCast
def xI:=@Nat.le_succ
def xJ:=@List.nodup_nil
def xK:=@Int.mul_nonneg
def xM:=@PySem.F.slot_tuple_iterator_next
def xN:=@List.all_map
def xO:=@beq_self_eq_true
def xP:=@List.getLast?_eq_getElem?
def xQ:=@List.getElem?_append_left
def xR:=@PySem.mem_of_lookup
def xS:=@if_false
def xT:=@PySem.wpAny_typeNameOf_keyiter
def xU:=@PySem.wpAny_execs_nil
def xV:=@List.of_mem_zip
def xW:=@PySem.call_meets
def xX:=@PySem.tupleKind_room_in1
def xY:=@List.lookup_append
def xZ:=@PySem.Calls.spliced_cons
def x6:=@Bool.false_eq_true
def x8:=@List.any_map
def x9:=@Nat.mul_le_mul
def wa:=@Bool.and_false
def wb:=@PySem.wpAny_pyIter_list
def wc:=@Nat.lt_succ_of_lt
def we:=@Int.mul_left_comm
def wg:=@PySem.Calls.callWith_builtin
def wj:=@List.getElem?_eq_none
def wk:=@PySem.typeIs_str
def wm:=@PySem.wpAny_attempt
def wo:=@List.sum_cons
def wq:=@List.all_cons
def wt:=@Int.mul_assoc
def wu:=@Sum.inr.inj
def wx:=@PySem.W.hideAll_get
def wy:=@List.filterMap_cons
def wA:=@PySem.Heap.SameBut.update
def wB:=@if_true
def wC:=@PySem.wpAny_typeOf
def wD:=@beq_iff_eq
def wF:=@Nat.mod_lt
def wG:=@PySem.W.callWith_K
def wH:=@PySem.Obj.data_mapFields
def wI:=@List.mem_filterMap
def wJ:=@Int.fdiv_eq_ediv_of_nonneg
def wK:=@PySem.Calls.spliced_nil
def wL:=@PySem.W.mg_of
abbrev wM:=PySem.Value
abbrev wN:=PySem.Shared
abbrev wO:=PySem.Program
abbrev wQ:=PySem.World
abbrev wR:=PySem.Around
abbrev wU:=PySem.FuncData
abbrev wV:=PySem.Addr
abbrev wW:=PySem.Heap
namespace L2
open PySem PySem.Spec PyProof.Rows
abbrev Key:=Sum Int Str
def uR:Key->wM->Bool
 | .inl k,v=>Value.isInt k v
 | .inr x,v=>Value.isStrOf x v
def Qc (w:wQ):Key->Int
 | .inl k=>hashInt k
 | .inr x=>hashStr w x
def bV:∀{k:Key} {v:wM},uR k v=true->(∃i t,k=Sum.inl i/\v=Value.int i t)\/(∃x t,k=Sum.inr x/\v=Value.str x t)
 | .inl i,v,h=>by
  let⟨t,e⟩:=Value.isInt_shape (k:=i) (v:=v) h;exact .inl {(i),t,rfl,e}
 | .inr x,v,h=>by
  let⟨t,e⟩:=Value.isStrOf_shape (x:=x) (v:=v) h;exact .inr {(x),t,rfl,e}
def GN (i:Int) (t:Tok):uR (.inl i) (.int i t)=true:=by simp[uR,Value.isInt]
def kJ (x:Str) (t:Tok):uR (.inr x) (.str x t)=true:=by simp[uR,Value.isStrOf]
def M3 (a b:Int):decide ((Sum.inl a:Key)=Sum.inl b)=(a == b):=by
 by_cases e:a=b
 ·subst e;simp
 ·let h:¬(Sum.inl a:Key)=Sum.inl b:=λq=>e (Sum.inl.inj q)
  rw[zc h];exact(xl.mpr e).symm
def MZ (a b:Str):decide ((Sum.inr a:Key)=Sum.inr b)=decide (a=b):=by
 by_cases e:a=b
 ·subst e;simp
 ·let h:¬(Sum.inr a:Key)=Sum.inr b:=λq=>e (wu q)
  rw[zc h,zc e]
def M1 (a:Int) (b:Str):decide ((Sum.inl a:Key)=Sum.inr b)=false:=zc (λq=>nomatch q)
def M0 (a:Str) (b:Int):decide ((Sum.inr a:Key)=Sum.inl b)=false:=zc (λq=>nomatch q)
def bU (prog:wO) (w:wQ):PySem.KeyKind prog w Key where
 is:=uR
 hash:=Qc w
 inj:=λv a b ha hb=>by
  rcases bV ha with⟨i,t,rfl,rfl⟩ | ⟨x,t,rfl,rfl⟩
  ·rcases bV hb with⟨j,u,rfl,e⟩ | ⟨y,u,rfl,e⟩
   ·injection e with e1 _;rw[e1]
   ·exact nomatch e
  ·rcases bV hb with⟨j,u,rfl,e⟩ | ⟨y,u,rfl,e⟩
   ·exact nomatch e
   ·injection e with e1 _;rw[e1]
 byValue:=λk v h=>by
  rcases bV h with⟨i,t,rfl,rfl⟩ | ⟨x,t,rfl,rfl⟩ <;> rfl
 pyHash:=λhv h=>by
  rcases bV hv with⟨i,t,rfl,rfl⟩ | ⟨x,t,rfl,rfl⟩
  ·exact wpAny_pyHash_int h
  ·exact wpAny_pyHash_str h
 eqBool:=λhu hv h=>by
  rcases bV hu with⟨i,t,rfl,rfl⟩ | ⟨x,t,rfl,rfl⟩
  ·rcases bV hv with⟨j,u,rfl,rfl⟩ | ⟨y,u,rfl,rfl⟩
   ·rw[M3] at h;exact wpAny_eqBool_int h
   ·rw[M1] at h;exact SeqAt.EqAt.int_str i t y u _ _ _ _ h
  ·rcases bV hv with⟨j,u,rfl,rfl⟩ | ⟨y,u,rfl,rfl⟩
   ·rw[M0] at h;exact SeqAt.EqAt.str_int x t j u _ _ _ _ h
   ·rw[MZ] at h;exact wpAny_eqBool_str h
 «strs»:=λk x t v h=>by
  rcases bV h with⟨i,u,rfl,e⟩ | ⟨y,u,rfl,e⟩
  ·exact nomatch e
  ·injection e with e1 _
   subst e1;cases v <;> rfl
def Cz (prog:wO) (w:wQ) (i:Int) (t:Tok):(bU prog w).is (.inl i) (.int i t)=true:=GN i t
def oM (prog:wO) (w:wQ) (x:Str) (t:Tok):(bU prog w).is (.inr x) (.str x t)=true:=kJ x t
end L2
namespace L2
open PySem PySem.Spec PyProof.Rows
inductive V where
 | aU | bl (b:Bool) | int (i:Int) | str (x:Str) | F1 (b:Array UInt8) | K2 (b:UInt64) | ref (a:wV) | ty (n:String)
 deriving DecidableEq
def RelV:V->wM->Prop
 | .aU,u=>u=Value.none
 | .bl b,u=>u=Value.bool b
 | .int i,u=>∃t,u=Value.int i t
 | .str x,u=>∃t,u=Value.str x t
 | .F1 b,u=>∃t,u=Value.bytes b t
 | .K2 b,u=>∃t,u=Value.float b t
 | .ref a,u=>u=Value.ref a
 | .ty n,u=>u=Value.type n
abbrev Vals:List V->List wM->Prop:=Paired RelV
theorem Vals.length (r:Vals xs us):⇑xs=⇑us:=xG r
theorem Vals.get:∀{xs:List V} {us:List wM} {i:Nat} {x:V},Vals xs us->xs[i]?=some x->∃u,us[i]?=some u/\RelV x u
 | _,_,_,_,.nil,e=>by simp at e
 | _,_,0,_,.cons r _,e=>by simp at e;subst e;exact{_,rfl,r}
 | _,_,i+1,x,.cons _ t,e=>by
  let⟨u,h1,h2⟩:=Vals.get (i:=i) (x:=x) t (by simpa using e);exact{u,by simpa using h1,h2}
theorem Vals.set {x:V} {u:wM} (r:RelV x u):∀{xs:List V} {us:List wM} (i:Nat),Vals xs us->Vals (xs.set i x) (us.set i u)
 | _,_,_,.nil=>.nil
 | _,_,0,.cons _ t=>.cons r t
 | _,_,i+1,.cons q t=>.cons q (Vals.set r i t)
theorem Vals.append:∀{xs ys:List V} {us ws:List wM},Vals xs us->Vals ys ws->Vals (xs++ys) (us++ws)
 | _,_,_,_,.nil,s=>s
 | _,_,_,_,.cons r t,s=>.cons r (Vals.append t s)
theorem Vals.take:∀{xs:List V} {us:List wM} (n:Nat),Vals xs us->Vals (xs.take n) (us.take n)
 | _,_,0,_=>.nil
 | _,_,_+1,.nil=>.nil
 | _,_,n+1,.cons r t=>.cons r (Vals.take n t)
theorem Vals.drop:∀{xs:List V} {us:List wM} (n:Nat),Vals xs us->Vals (xs.drop n) (us.drop n)
 | _,_,0,r=>r
 | _,_,_+1,.nil=>.nil
 | _,_,n+1,.cons _ t=>Vals.drop n t
def dU:Option V->Option wM->Prop
 | some v,some u=>RelV v u
 | none,none=>True
 | _,_=>False
def KV:List (κ×V)->List (κ×wM)->Prop:=Paired λ(p:κ×V) (q:κ×wM)=>p.1=q.1/\RelV p.2 q.2
def kV:Key->V
 | .inl i=>.int i
 | .inr x=>.str x
inductive HO where
 | lst (xs:List V)
 | tup (xs:List V)
 | dK (kvs:List (Key×V)) | dT (kvs:List (List Key×V))
 | set (S:Int->Bool) (n:Nat)
 | ins (C dx:wV) (fs:List (Str×V))
 | own (x:wV)
 | xd (fs:List (Str×V))
 | met (f x:wV)
 | Mw (lo hi:Int)
 | jF (o:Obj) (u:HO)
 | HL (ps:Array wM)
 | ext (φ:wW->Prop)
abbrev Hp:=wV->Option HO
def upd (H:Hp) (a:wV) (o:HO):Hp:=λb=>if b=a then some o else H b
def aA:upd H a o a=some o:=by unfold upd;rw[yF rfl]
def ao (h:b≠a):upd H a o b=H b:=by unfold upd;rw[yE h]
def aJ {H:Hp} {a b:wV} {o u:HO} (h:H a=some o) (h':H b=some u) (d:o≠u):a≠b:=by
 intro e;subst e;rw[h] at h';exact d (yb h')
def aL {H:Hp} {a b:wV} {o:HO} (h:H a=some o) (h':H b=none):a≠b:=by
 intro e;subst e;rw[h] at h';cases h'
section
variable (P:wO) (w:wQ)
def aW (H:Hp) (h:wW) (a:wV):HO->Prop
 | .lst xs=>⇑xs<=sizeLine/\∃(its:List wM) (n:Nat),Vals xs its/\h.get? a=some {cls:=.type "list",data:=.seq its.toArray n}
 | .tup xs=>⇑xs<=sizeLine/\∃its:List wM,Vals xs its/\IsTup h a its.toArray
 | .dK kvs=>⇑kvs<=sizeLine/\(a == sysModules)=false/\∃vs,KV kvs vs/\h.DictOf (bU P w) a vs
 | .dT kvs=>⇑kvs<=sizeLine/\(a == sysModules)=false/\∃xs:List (List Key×wV×wM),
   Paired (λ(p:List Key×V) (q:List Key×wV×wM)=>p.1=q.1/\H q.2.1=some (.tup (p.1.map kV))/\RelV p.2 q.2.2) kvs xs/\
   ∃o es ep,h.get? a=some o/\o.ExactDict/\o.data=.dict es ep/\es.toList=xs.map (entryOfKey (tupleKind (bU P w)))/\(xs.map (·.1)).Nodup
 | .set S n=>h.SetOf (intKind P w) a S n
 | .ins C dx fs=>H dx=some (.own a)/\⇑fs<=1000/\dx≠a/\h.get? a=some (PySem.W.instObj C dx)/\
   ∃mA,h.Ns1 dx mA/\(∀f,dU (fs.lookup f) (mA f))/\PySem.Within mA (fs.map (·.1))
 | .own _=>∃o,h.get? a=some o
 | .xd fs=>∃mA,h.Ns1 a mA/\∀f,dU (fs.lookup f) (mA f)
 | .Mw lo hi=>∃t u v,h.get? a=some {cls:=.type "range",data:=.fields #[.int lo t,.int hi u,.int 1 v]}
 | .jF o u=>h.get? a=some o/\aW H h a u
 | .HL ps=>h.get? a=some {cls:=.none,data:=.fields ps}
 | .met f x=>h.get? a=some (PySem.W.methodObj (.ref f) (.ref x))
 | .ext φ=>φ h/\(∃o,h.get? a=some o)/\∀h1 h2:wW,φ h1->(∀o,h1.get? a=some o->h2.get? a=some o)->φ h2
def kQ (H:Hp) (h:wW):Prop:=∀a o,H a=some o->aW P w H h a o
end
section
variable {P:wO} {w:wQ} {H H':Hp} {h h':wW} {a:wV} {o:HO}
theorem aW.lt (x:aW P w H h a o):a<h.objs.size:=by
 cases o with
 | lst xs=>let⟨_,_,_,_,e⟩:=x;exact yo e
 | tup xs=>let⟨_,_,_,p⟩:=x;exact p.lt
 | dK kvs=>let⟨_,_,_,_,o,_,_,e,_⟩:=x;exact yo e
 | dT kvs=>let⟨_,_,_,_,o,_,_,e,_⟩:=x;exact yo e
 | set S n=>let⟨o,_,_,_,e,_⟩:=x;exact yo e
 | ins C dx fs=>let⟨_,_,_,e,_⟩:=x;exact yo e
 | own y=>let⟨_,e⟩:=x;exact yo e
 | xd fs=>let⟨_,⟨_,_,_,e,_⟩,_⟩:=x;exact yo e
 | Mw lo hi=>let⟨_,_,_,e⟩:=x;exact yo e
 | jF ob u=>let⟨e,_⟩:=x;exact yo e
 | HL ps=>exact yo (show h.get? a=some _ from x)
 | met f y=>exact yo (show h.get? a=some _ from x)
 | ext φ=>let⟨_,⟨_,e⟩,_⟩:=x;exact yo e
theorem Paired.MT:∀{l₁:List α} {l₂:List β},Paired F l₁ l₂->(∀a b,F a b->G a b)->Paired G l₁ l₂
 | _,_,.nil,_=>.nil
 | _,_,.cons r t,f=>.cons (f _ _ r) (Paired.MT t f)
def aW.gs (x:aW P w H h a o) (k:∀b u,(b=a\/H b=some (.own a))->h.get? b=some u->h'.get? b=some u)
  (ho:∀b,H b=some (.own a)->H' b=some (.own a)) (ht:∀b xs,H b=some (.tup xs)->H' b=some (.tup xs)):aW P w H' h' a o:=by
 induction o with
 | lst xs=>let⟨z,its,n,r,e⟩:=x;exact{z,its,n,r,k _ _ (.inl rfl) e}
 | tup xs=>let⟨z,its,r,ob,e,c⟩:=x;exact{z,its,r,ob,k _ _ (.inl rfl) e,c}
 | dK kvs=>let⟨z,y,vs,r,ob,es,ep,e,c⟩:=x;exact{z,y,vs,r,ob,es,ep,k _ _ (.inl rfl) e,c}
 | dT kvs=>
  let⟨z,y,xs,r,ob,es,ep,e,c⟩:=x;exact{z,y,xs,Paired.MT r λp q z=>{z.1,ht _ _ z.2.1,z.2.2},ob,es,ep,k _ _ (.inl rfl) e,c}
 | set S n=>let⟨ob,es,ep,t,e,c⟩:=x;exact{ob,es,ep,t,k _ _ (.inl rfl) e,c}
 | ins C dx fs=>
  let⟨d,z,ne,e,mA,⟨od,es,ep,e2,c⟩,r⟩:=x;exact{ho _ d,z,ne,k _ _ (.inl rfl) e,mA,{od,es,ep,k _ _ (.inr d) e2,c},r}
 | own y=>let⟨ob,e⟩:=x;exact{ob,k _ _ (.inl rfl) e}
 | xd fs=>let⟨mA,⟨od,es,ep,e,c⟩,r⟩:=x;exact{mA,{od,es,ep,k _ _ (.inl rfl) e,c},r}
 | Mw lo hi=>let⟨t,u,v,e⟩:=x;exact{t,u,v,k _ _ (.inl rfl) e}
 | jF ob u ih=>let⟨e,q⟩:=x;exact{k _ _ (.inl rfl) e,ih q}
 | HL ps=>
  let e:h.get? a=some {cls:=.none,data:=.fields ps}:=x;show h'.get? a=some {cls:=.none,data:=.fields ps};exact k a _ (.inl rfl) e
 | met f y=>
  let e:h.get? a=some (PySem.W.methodObj (.ref f) (.ref y)):=x;show h'.get? a=some (PySem.W.methodObj (.ref f) (.ref y));exact k a _ (.inl rfl) e
 | ext φ=>let⟨p,⟨o,e⟩,st⟩:=x;exact{st _ _ p λo q=>k _ _ (.inl rfl) q,{o,k _ _ (.inl rfl) e},st}
theorem kQ.lt (x:kQ P w H h) (e:H a=some o):a<h.objs.size:=(x a o e).lt
def kQ.fresh (x:kQ P w H h) (e:h.objs.size<=a):H a=none:=by
 cases q:H a with
 | none=>rfl
 | some u=>exact absurd (zV (x.lt q) e) (zY _)
def kQ.kept (x:kQ P w H h) (k:∀b u,h.get? b=some u->h'.get? b=some u):kQ P w H h':=λa o e=>
 (x a o e).gs (λb u _ q=>k b u q) (λ_ q=>q) λ_ _ q=>q
def kQ.laid (x:kQ P w H h) (k:∀b u,h.get? b=some u->h'.get? b=some u) (hp:h.objs.size<=a) (new:aW P w (upd H a o) h' a o):kQ P w (upd H a o) h':=λb u e=>by
 let hn:=x.fresh hp
 by_cases hb:b=a
 ·subst hb;rw[aA] at e;cases e;exact new
 ·rw[ao hb] at e
  exact(x b u e).gs (λc v _ q=>k c v q) (λc q=>by rw[ao (aL q hn)];exact q) λc xs q=>by rw[ao (aL q hn)];exact q
end
def Rd (H:Hp) (a:wV) (u:HO):Prop:=H a=some u\/∃o,H a=some (.jF o u)
def Rd.ok (r:Rd H a u) (x:kQ P w H h):aW P w H h a u:=by
 rcases r with r | ⟨o,r⟩
 ·exact x a u r
 ·let⟨_,q⟩:=x a _ r
  exact q
def O3:Option HO->Prop
 | some (.lst _)=>True
 | some (.dK _)=>True
 | some (.dT _)=>True
 | some (.set _ _)=>True
 | some (.ins _ _ _)=>True
 | some (.ext _)=>True
 | _=>False
section
variable {P:wO} {w:wQ} {H:Hp} {h h':wW} {x e:wV} {o':HO}
def kQ.write (ok:kQ P w H h) (mu:O3 (H x)) (he:e=x\/H e=some (.own x)) (k:∀b u,b≠e->h.get? b=some u->h'.get? b=some u) (heo:∃u,h'.get? e=some u)
  (new:aW P w (upd H x o') h' x o'):kQ P w (upd H x o') h':=λb u q=>by
 let nown:∀c y,H c=some (.own y)->c≠x:=λc y r z=>by subst z;rw[r] at mu;exact mu
 let ntup:∀c xs,H c=some (.tup xs)->c≠x:=λc xs r z=>by subst z;rw[r] at mu;exact mu
 by_cases hb:b=x
 ·subst hb;rw[aA] at q;cases q;exact new
 ·rw[ao hb] at q
  by_cases hbe:b=e
  ·let q':H b=some (.own x):=by
    rcases he with z | z
    ·exact absurd (hbe.trans z) hb
    ·rw[hbe];exact z
   rw[q] at q';cases q';let⟨v,hv⟩:=heo;exact{v,by rw[hbe];exact hv}
  ·refine(ok b u q).gs (λc v hc r=>k c v ?_ r) (λc r=>by rw[ao (nown c b r)];exact r) λc xs r=>by rw[ao (ntup c xs r)];exact r
   rcases hc with rfl | hc
   ·exact hbe
   ·rintro rfl
    rcases he with z | z
    ·exact nown c b hc z
    ·rw[hc] at z;cases z;exact hb rfl
end
structure Un (fs ex:List wV) (H H':Hp) (h h':wW):Prop where
 keep:∀b o,h.get? b=some o->H b=none->b∉fs->b∉ex->h'.get? b=some o
 slot:∀b o,h.get? b=some o->H b=none->b∈fs->b∉ex->∃sl,h'.get? b=some {o with slots:=sl}
 free:∀b o,h.get? b=some o->H b=none->b∉ex->H' b=none
 there:∀b o,h.get? b=some o->b∉ex->∃o',h'.get? b=some o'
 jA:∀b xs,H b=some (.tup xs)->H' b=some (.tup xs)
 iE:∀b o u,H b=some (.jF o u)->H' b=some (.jF o u)
 jB:∀b ps,H b=some (.HL ps)->∃more,H' b=some (.HL (ps++more))
section
variable {fs fs' ex ex':List wV} {H H1 H2:Hp} {h h1 h2 h':wW} {a x e:wV} {o:HO}
def Un.any (u:Un fs ex H H1 h h1) (q:h.get? b=some ob) (n:H b=none) (hx:b∉ex):∃sl,h1.get? b=some {ob with slots:=sl}:=by
 by_cases hb:b∈fs
 ·exact u.slot b ob q n hb hx
 ·exact{ob.slots,u.keep b ob q n hb hx}
def Un.kept (k:∀b u,h.get? b=some u->h'.get? b=some u):Un fs ex H H h h':=
 {λb ob q _ _ _=>k b ob q,λb ob q _ _ _=>{ob.slots,k b ob q},λ_ _ _ n _=>n,λb ob q _=>{ob,k b ob q},λ_ _ q=>q,λ_ _ _ q=>q,λ_ ps q=>{#[],by rw[q];simp}}
def Un.refl:Un fs ex H H h h:=Un.kept λ_ _ q=>q
def Un.laid (k:∀b u,h.get? b=some u->h'.get? b=some u) (hp:h.objs.size<=a) (hn:H a=none):Un fs ex H (upd H a o) h h' where
 keep:=λb u q _ _ _=>k b u q
 slot:=λb u q _ _ _=>{u.slots,k b u q}
 free:=λb u q n _=>by rw[ao (ya (zV (yo q) hp))];exact n
 there:=λb u q _=>{u,k b u q}
 jA:=λb xs q=>by rw[ao (aL q hn)];exact q
 iE:=λb u xs q=>by rw[ao (aL q hn)];exact q
 jB:=λb ps q=>{#[],by rw[ao (aL q hn),q];simp}
def Un.write (mu:O3 (H x)) (he:e=x\/H e=some (.own x)) (k:∀b u,b≠e->h.get? b=some u->h'.get? b=some u) (heo:∃u,h'.get? e=some u):Un fs ex H (upd H x o) h h':=by
 let hx:∀b,H b=none->b≠x:=λb n z=>by subst z;rw[n] at mu;exact mu
 let hb:∀b,H b=none->b≠e:=λb n z=>by
  subst z;rcases he with r | r
  ·exact hx b n r
  ·rw[n] at r;cases r
 let hm:∀b u,H b=some u->¬O3 (some u)->b≠x:=λb u q nm z=>by subst z;rw[q] at mu;exact nm mu
 refine{λb u q n _ _=>k b u (hb b n) q,λb u q n _ _=>{u.slots,k b u (hb b n) q},λb u q n _=>by rw[ao (hx b n)];exact n,λb u q _=>?_,
  λb xs q=>by rw[ao (hm b _ q λz=>z)];exact q,λb u xs q=>by rw[ao (hm b _ q λz=>z)];exact q,λb ps q=>{#[],by rw[ao (hm b _ q λz=>z),q];simp}}
 by_cases hbe:b=e
 ·subst hbe;exact heo
 ·exact{u,k b u hbe q}
end
def Pb (h:wW) (H:Hp):List wV:=(List.range h.objs.size).filter λa=>(H a).isSome
def AF (h:wW) (H:Hp):wW:=PySem.W.hideAll h (Pb h H)
def GR (h:wW) (H:Hp):(AF h H).objs.size=h.objs.size:=PySem.W.hideAll_size _ _
def Jm (e:h.get? b=some o) (n:H b=none):(AF h H).get? b=some o:=
 wx _ e λhm=>by
  let q:(H b).isSome=true:=(List.mem_filter.mp hm).2;rw[n] at q;simp at q
def KJ (e:(AF h H).get? b=some o):h.get? b=some o/\H b=none:=by
 let e':h.get? b=some o:=PySem.W.of_hideAll (Pb h H) e;refine{e',?_};cases q:H b with
 | none=>rfl
 | some x=>
  let hm:b∈Pb h H:=List.mem_filter.mpr {yI.mpr (yo e'),by simp[q]};let z:(AF h H).get? b=none:=PySem.W.hideAll_none (Pb h H) hm;rw[z] at e;cases e
end L2
namespace L2
open PySem PySem.Spec PyProof.Rows
structure Mod (K:yr) (mg:Str->Option wM) (base:wW):Prop where
 KW:K.In base
 glob:base.Ns mainGlobals mg
 blt:∃mb,base.Ns builtinsNs mb/\∀x:Str,x≠ "__name__"->mb x=bootBuiltins x
 nolimit:base.NoLimit
set_option genInjectivity false in
structure Cx where
 prog:wO
 w:wQ
 K:yr
 mg:Str->Option wM
 base:wW
 A:wR
 N:List Str
 s₀:wN
 H₀:Hp
 env:Env
 outer:List Env
 stack:List Env
 ex:List wV
 fn:Str->Bool
 calm:Bool
 pn:List (wV×Obj)
 xe:wM->wN->Prop
def gr (l:List Env):List wV:=l.filterMap (·.frame)
abbrev Cx.fs (X:Cx):List wV:=gr X.outer
def LW (sc:Scope) (x:Str):Prop:=sc.names.lookup x=some .local\/sc.names.lookup x=some .cell\/sc.names.lookup x=some .free
def Loc (sc:Scope) (x:Str):Prop:=sc.names.lookup x=some .local\/sc.names.lookup x=some .cell
def Look (env:Env) (h:wW) (m:Str->Option wM) (x:Str) (u:wM):Prop:=
 (env.kindOf x=some .local/\m x=some u)\/((env.kindOf x=some .cell\/env.kindOf x=some .free)/\∃c,env.cells.lookup x=some c/\h.IsCell c (some u))
structure Cx.Ok (X:Cx):Prop where
 mod:Mod X.K X.mg X.base
 kind:X.env.scope.kind=.function
 glob:X.env.globals=mainGlobals
 blt:X.env.builtins=builtinsNs
 above:X.s₀.heap.objs.size<=X.env.locals
 inj:∀x y c,X.env.cells.lookup x=some c->X.env.cells.lookup y=some c->x=y
 has:∀x,(X.env.kindOf x=some .cell\/X.env.kindOf x=some .free)->∃c,X.env.cells.lookup x=some c
 Nr:∀x c,X.fn x=true->X.env.cells.lookup x=some c->X.s₀.heap.objs.size<=c
 hd:X.calm=true->X.A.handled=none
 frames:X.A.frames=some X.stack
 NH:X.stack=X.outer\/(X.stack=X.env::X.outer/\X.env.frame=some X.env.locals)
 Pe:∀b∈X.ex,b≠X.env.locals/\∀x c,X.env.cells.lookup x=some c->c≠b
 bs:∀b o,X.base.get? b=some o->X.s₀.heap.get? b=some o/\X.H₀ b=none
 Hr:X.base.objs.size<=X.s₀.heap.objs.size
 jC:∀b o,X.base.get? b=some o->b∉X.ex
 EA:∀b∈X.ex,b∉X.fs
 kf:X.s₀.heap.FunFrames X.base X.outer
 AG:∀b∈X.fs,X.H₀ b=none
structure Inv (X:Cx) (pins:List (wV×Obj)) (U:List (Option V)) (H:Hp) (s:wN):Prop where
 ok:X.Ok
 os:s.os=X.s₀.os
 bare:AllBare s.gens
 base:Un X.fs X.ex X.H₀ H X.s₀.heap s.heap
 loc:∃m,s.heap.Ns X.env.locals m/\∀(i:Nat) (x:Str) (v:V),X.N[i]?=some x->U[i]?=some (some v)->LW X.env.scope x->∃u,RelV v u/\Look X.env s.heap m x u
 cell:∀x c,X.env.cells.lookup x=some c->∃v,s.heap.IsCell c v
 free:H X.env.locals=none
 gi:∀x c,X.env.cells.lookup x=some c->H c=none
 pin:∀p∈X.pn++pins,s.heap.get? p.1=some p.2/\H p.1=none/\p.1≠X.env.locals/\p.1∉X.fs/\∀v,p.2.data≠.cell v
 aT:kQ X.prog X.w H s.heap
 len:U.length=⇑X.N
section
variable {X:Cx} {pins:List (wV×Obj)} {U:List (Option V)} {H H':Hp} {s:wN} {h':wW}
def Cx.Ok.Qa (ok:X.Ok) (e:X.base.get? b=some o):b∉X.fs:=λhb=>by
 have:=(ok.kf.mem hb).1;rw[e] at this;cases this
theorem Inv.bs (I:Inv X pins U H s):∀b o,X.base.get? b=some o->s.heap.get? b=some o/\H b=none:=λb o e=>
 {I.base.keep b o (I.ok.bs b o e).1 (I.ok.bs b o e).2 (I.ok.Qa e) (I.ok.jC b o e),I.base.free b o (I.ok.bs b o e).1 (I.ok.bs b o e).2 (I.ok.jC b o e)}
def Inv.bk (I:Inv X pins U H s):∀b o,X.base.get? b=some o->s.heap.get? b=some o:=λb o e=>(I.bs b o e).1
theorem Inv.mod (I:Inv X pins U H s):Mod X.K X.mg X.base:=I.ok.mod
def Inv.ie (I:Inv X pins U H s):X.K.In s.heap:=I.ok.mod.KW.keeps I.bk
theorem Inv.lt (I:Inv X pins U H s):X.env.locals<↑s:=let ⟨_,hn,_⟩:=I.loc;hn.lt
def Inv.sz (I:Inv X pins U H s):X.s₀.heap.objs.size<=↑s:=zJ I.ok.above (z0 I.lt)
def Inv.Oy (I:Inv X pins U H s) (h:↑s<=a):a∉X.fs:=λhb=>by
 let⟨_,o,ho,_⟩:=I.ok.kf.mem hb;exact absurd (zV (yo ho) (zJ I.sz h)) (zY _)
def Inv.FY (I:Inv X pins U H s):∀x c,X.env.cells.lookup x=some c->c≠X.env.locals:=λx c e z=>by
 let⟨v,o,ho,hd⟩:=I.cell x c e;let⟨m,⟨o',es,ep,ho',hd',_⟩,_⟩:=I.loc;rw[z,ho'] at ho;cases ho;rw[hd'] at hd;cases hd
theorem Inv.kf (I:Inv X pins U H s):s.heap.FunFrames X.base X.outer:=by
 let all:∀(l:List Env),(∀b∈gr l,b∈X.fs)->X.s₀.heap.FunFrames X.base l->s.heap.FunFrames X.base l:=by
  intro l
  induction l with
  | nil=>intro _ _;trivial
  | cons env r ih=>
   intro hs hl;let⟨hk,⟨L,o,hf,hn,ho,hd⟩,hr⟩:=hl;let hL:L∈X.fs:=hs L (by unfold gr;rw[wy,hf];exact zk);let⟨sl,e⟩:=I.base.slot L o ho (I.ok.AG L hL) hL λz=>I.ok.EA L z hL;exact{hk,{L,_,hf,hn,e,hd},ih (λb hb=>hs b (by unfold gr;rw[wy,hf];exact zj _ hb)) hr}
 exact all X.outer (λ_ hb=>hb) I.ok.kf
theorem Inv.stack (I:Inv X pins U H s):s.heap.FunFrames X.base X.stack:=by
 rcases I.ok.NH with e | ⟨e,hf⟩
 ·rw[e];exact I.kf
 ·rw[e]
  let⟨m,hn,_⟩:=I.loc;refine .cons (by rw[I.ok.kind];decide) hf hn ?_ I.kf;exact Heap.get?_none_of_le (zJ I.ok.Hr I.ok.above)
def Inv.vJ (I:Inv X pins U H s):∀b∈gr X.stack,b∈X.env.locals::X.fs:=λb hb=>by
 rcases I.ok.NH with e | ⟨e,hf⟩
 ·rw[e] at hb;exact zj _ hb
 ·rw[e] at hb
  unfold gr at hb;rw[wy,hf] at hb;exact hb
def Inv.iP (I:Inv X pins U H s):∀b∈gr X.stack,H b=none:=λb hb=>by
 rcases zA.mp (I.vJ b hb) with e | hb
 ·rw[e];exact I.free
 ·let⟨_,o,ho,_⟩:=I.ok.kf.mem hb
  exact I.base.free b o ho (I.ok.AG b hb) λz=>I.ok.EA b z hb
def Inv.step {g':Array GenState} {t':Nat} {d':Drawn} {ch:List wV} (I:Inv X pins U H s)
  (hch:∀b∈ch,(b∈X.ex\/X.s₀.heap.objs.size<=b)/\b≠X.env.locals/\(∀x c,X.env.cells.lookup x=some c->c≠b)/\∀p∈X.pn++pins,p.1≠b)
  (keep:∀b o,b≠X.env.locals->b∉X.fs->b∉ch->s.heap.get? b=some o->H b=none->h'.get? b=some o)
  (slot:∀b o,b≠X.env.locals->b∈X.fs->b∉ch->s.heap.get? b=some o->H b=none->∃sl,h'.get? b=some {o with slots:=sl}) (free:∀b o,b∉ch->s.heap.get? b=some o->H b=none->H' b=none)
  (there:∀b o,b∉ch->s.heap.get? b=some o->∃o',h'.get? b=some o')
  (jA:∀b xs,H b=some (.tup xs)->H' b=some (.tup xs)) (iE:∀b o u,H b=some (.jF o u)->H' b=some (.jF o u)) (jB:∀b ps,H b=some (.HL ps)->∃more,H' b=some (.HL (ps++more)))
  (ns:∀m,s.heap.Ns X.env.locals m->h'.Ns X.env.locals m) (aT:kQ X.prog X.w H' h') (hg:AllBare g') :
  Inv X pins U H' {s with heap:=h',gens:=g',drawn:=d',toks:=t'}:=by
 let neL:∀b o,X.s₀.heap.get? b=some o->b≠X.env.locals:=λb o e=>ya (zV (yo e) I.ok.above);let neC:∀b o,X.s₀.heap.get? b=some o->b∉X.ex->b∉ch:=λb o e hx hb=>by
  rcases(hch b hb).1 with z | z
  ·exact hx z
  ·exact absurd (zV (yo e) z) (zY _)
 let cellK:∀x c,X.env.cells.lookup x=some c->∀v,s.heap.IsCell c v->h'.IsCell c v:=λx c e v ⟨o,ho,hd⟩=>by
  let nch:c∉ch:=λz=>(hch c z).2.2.1 x c e rfl
  by_cases hc:c∈X.fs
  ·let⟨sl,q⟩:=slot c o (I.FY x c e) hc nch ho (I.gi x c e)
   exact{_,q,hd}
  ·exact{o,keep c o (I.FY x c e) hc nch ho (I.gi x c e),hd}
 refine{I.ok,I.os,hg,{λb o e n hb hx=>?_,λb o e n hb hx=>?_,λb o e n hx=>?_,λb o e hx=>?_,λb xs e=>jA b xs (I.base.jA b xs e),λb o xs e=>iE b o xs (I.base.iE b o xs e),λb ps e=>?_},?_,λx c e=>?_,?_,λx c e=>?_,λp hp=>?_,aT,I.len}
 ·exact keep b o (neL b o e) hb (neC b o e hx) (I.base.keep b o e n hb hx) (I.base.free b o e n hx)
 ·let⟨sl,e1⟩:=I.base.slot b o e n hb hx
  let⟨sl',e2⟩:=slot b _ (neL b o e) hb (neC b o e hx) e1 (I.base.free b o e n hx);exact{(sl'),e2}
 ·let⟨o',e1⟩:=I.base.there b o e hx
  exact free b o' (neC b o e hx) e1 (I.base.free b o e n hx)
 ·let⟨o',e1⟩:=I.base.there b o e hx
  exact there b o' (neC b o e hx) e1
 ·let⟨m1,e1⟩:=I.base.jB b ps e
  let⟨m2,e2⟩:=jB b _ e1;exact{m1++m2,by rw[e2,Array.append_assoc]}
 ·let⟨m,hn,hl⟩:=I.loc
  refine{m,ns m hn,λi x v e1 e2 e3=>?_};let⟨u,r,l⟩:=hl i x v e1 e2 e3;refine{u,r,?_};rcases l with l | ⟨k,c,e,z⟩
  ·exact .inl l
  ·exact .inr {k,c,e,cellK x c e _ z}
 ·let⟨v,z⟩:=I.cell x c e
  exact{v,cellK x c e v z}
 ·let⟨m,⟨o,_,_,ho,_⟩,_⟩:=I.loc
  exact free _ o (λz=>(hch _ z).2.1 rfl) ho I.free
 ·let⟨v,o,ho,hd⟩:=I.cell x c e
  exact free c o (λz=>(hch c z).2.2.1 x c e rfl) ho (I.gi x c e)
 ·let⟨e,n,ne,nf,d⟩:=I.pin p hp
  let nch:p.1∉ch:=λz=>(hch p.1 z).2.2.2 p hp rfl;exact{keep p.1 p.2 ne nf nch e n,free p.1 p.2 nch e n,ne,nf,d}
def Inv.un {t':Nat} (I:Inv X pins U H s) (u:Un X.fs [] H H' s.heap h') (aT:kQ X.prog X.w H' h'):Inv X pins U H' {s with heap:=h',toks:=t'}:=by
 let⟨m,⟨o,es,ep,ho,r⟩,_⟩:=id I.loc;let⟨sl,hL⟩:=u.any ho I.free (by simp);exact I.step (g':=s.gens) (d':=s.drawn) (ch:=[]) (λ_ z=>nomatch z) (λb o _ hb _ e n=>u.keep b o e n hb (by simp)) (λb o _ hb _ e n=>u.slot b o e n hb (by simp)) (λb o _ e n=>u.free b o e n (by simp)) (λb o _ e=>u.there b o e (by simp)) u.jA u.iE u.jB (λm' hm=>by
  let⟨o',es',ep',ho',r'⟩:=hm;rw[ho] at ho';cases ho';exact{_,es',ep',hL,r'}) aT I.bare
def Inv.call {g':Array GenState} {t':Nat} {d':Drawn} {ch:List wV} (I:Inv X pins U H s) (u:Un (gr X.stack) ch H H' s.heap h') (aT:kQ X.prog X.w H' h') (hg:AllBare g')
  (hch:∀b∈ch,(b∈X.ex\/X.s₀.heap.objs.size<=b)/\b≠X.env.locals/\(∀x c,X.env.cells.lookup x=some c->c≠b)/\∀p∈X.pn++pins,p.1≠b) :
  Inv X pins U H' {s with heap:=h',gens:=g',drawn:=d',toks:=t'}:=by
 let⟨m,⟨o,es,ep,ho,r⟩,_⟩:=id I.loc;let⟨sl,hL⟩:=u.any ho I.free λz=>(hch _ z).2.1 rfl;exact I.step (ch:=ch) hch (λb o hL hb hc e n=>u.keep b o e n (λz=>(zA.mp (I.vJ b z)).elim hL hb) hc) (λb o _ _ hc e n=>u.any e n hc) (λb o hc e n=>u.free b o e n hc) (λb o hc e=>u.there b o e hc) u.jA u.iE u.jB (λm' hm=>by
  let⟨o',es',ep',ho',r'⟩:=hm;rw[ho] at ho';cases ho';exact{_,es',ep',hL,r'}) aT hg
def Inv.turned {t':Nat} {it:wV} (I:Inv X pins U H s) (k:∀b o,b≠it->s.heap.get? b=some o->h'.get? b=some o) (hn:H it=none) (hL:it≠X.env.locals)
  (h1:it∈X.ex\/X.s₀.heap.objs.size<=it) (h2:∀x c,X.env.cells.lookup x=some c->c≠it) (h3:∀p∈X.pn++pins,p.1≠it):Inv X pins U H {s with heap:=h',toks:=t'}:=by
 let nit:∀b u,H b=some u->b≠it:=λb u e z=>by rw[z,hn] at e;cases e
 refine I.step (g':=s.gens) (d':=s.drawn) (ch:=[it]) (λb hb=>?_) (λb o _ _ hc e _=>k b o (λz=>hc (by simp[z])) e) (λb o _ _ hc e _=>{o.slots,k b o (λz=>hc (by simp[z])) e}) (λ_ _ _ _ n=>n)
  (λb o hc e=>{o,k b o (λz=>hc (by simp[z])) e}) (λ_ _ e=>e) (λ_ _ _ e=>e) (λb ps e=>{#[],by rw[e];simp}) (λm hm=>?_) (λb u e=>?_) I.bare
 ·let e:b=it:=by simpa using hb
  subst e;exact{(h1),hL,h2,h3}
 ·let⟨o,es,ep,ho,r⟩:=hm
  exact{o,es,ep,k _ o (Ne.symm hL) ho,r}
 ·refine(I.aT b u e).gs (λc v hc q=>k c v ?_ q) (λ_ q=>q) λ_ _ q=>q
  rcases hc with z | z
  ·rw[z];exact nit b u e
  ·exact nit c _ z
def Inv.tok (I:Inv X pins U H s) (t:Nat):Inv X pins U H {s with toks:=t}:=I.un (h':=s.heap) (t':=t) Un.refl I.aT
theorem Inv.kept (I:Inv X pins U H s) (k:∀b u,s.heap.get? b=some u->h'.get? b=some u):Inv X pins U H {s with heap:=h',toks:=t'}:=I.un (Un.kept k) (I.aT.kept k)
theorem Inv.laid (I:Inv X pins U H s) (k:∀b u,s.heap.get? b=some u->h'.get? b=some u) (hp:↑s<=a) (new:aW X.prog X.w (upd H a o) h' a o) :
  Inv X pins U (upd H a o) {s with heap:=h',toks:=t'}:=I.un (Un.laid k hp (I.aT.fresh hp)) (I.aT.laid k hp new)
theorem Inv.write (I:Inv X pins U H s) (mu:O3 (H x)) (he:e=x\/H e=some (.own x)) (k:∀b u,b≠e->s.heap.get? b=some u->h'.get? b=some u) (heo:∃u,h'.get? e=some u)
  (new:aW X.prog X.w (upd H x o) h' x o):Inv X pins U (upd H x o) {s with heap:=h',toks:=t'}:=I.un (Un.write mu he k heo) (I.aT.write mu he k heo new)
def Inv.kE (I:Inv X pins U H s) (h:∀p∈pins',s.heap.get? p.1=some p.2/\H p.1=none/\p.1≠X.env.locals/\p.1∉X.fs/\∀v,p.2.data≠.cell v):Inv X pins' U H s:=
 {I.ok,I.os,I.bare,I.base,I.loc,I.cell,I.free,I.gi,λp hp=>(zD.mp hp).elim (λz=>I.pin p (zG _ z)) (h p),I.aT,I.len}
def qV {N:List Str} (hN:N.Nodup) {i j:Nat} {x:Str} (a:N[i]?=some x) (b:N[j]?=some x):i=j:=by
 let⟨h1,e1⟩:=zt.mp a;let⟨h2,e2⟩:=zt.mp b;exact(List.getElem_inj hN).mp (e1.trans e2.symm)
def uC {M:Model} {A:wR} {E:wM->wN->Prop} {i:Nat} {x:Str} {v:V} {u:wM} {Q:Unit->wN->Prop} (I:Inv X pins U H s) (hN:X.N.Nodup) (hi:X.N[i]?=some x) (hx:Loc X.env.scope x) (r:RelV v u)
  (h:∀s',Inv X pins (U.set i (some v)) H s'->(∃a,Heap.SameBut a s.heap s'.heap/\(a=X.env.locals\/X.env.cells.lookup x=some a))->Q .unit s') (hf:X.fn x=true\/X.env.scope.names.lookup x=some .local<|>qa_):wpAny M A (storeName X.env x u) Q E s:=by
 let⟨m,hn,hl⟩:=id I.loc;let hcls:(X.env.scope.kind == .class||(X.env.scope.kind == .module&&X.env.locals != X.env.globals))=false:=by rw[I.ok.kind];rfl
 let hiU:i<U.length:=by rw[I.len];exact(zt.mp hi).1
 let FY:=I.FY;let tracked:∀{a:wV} {h':wW},(∃o,s.heap.get? a=some o/\H a=none)->Heap.SameBut a s.heap h'->kQ X.prog X.w H h':=λ{a h'} ha hs b ob e=>by
  let⟨_,_,hfree⟩:=ha;refine(I.aT b ob e).gs (λc w' hc q=>(hs.2 c ?_).trans q) (λ_ q=>q) λ_ _ q=>q;rintro rfl;rcases hc with rfl | hc
  ·rw[hfree] at e;cases e
  ·rw[hfree] at hc;cases hc
 rcases hx with hk | hk
 ·refine wpAny_storeName_local hk hn (λh' hn' hs=>?_) hcls
  let⟨oL,_,_,hoL,_⟩:=id hn;refine h _ {I.ok,I.os,I.bare,{λb o e n hb hx=>?_,λb o e n hb hx=>?_,I.base.free,λb o e hx=>?_,I.base.jA,I.base.iE,I.base.jB},{_,hn',λj y v' e1 e2 e3=>?_},λy c e=>?_,I.free,I.gi,λp hp=>?_,tracked {(oL),hoL,I.free} hs,by simpa using I.len} {_,hs,.inl rfl}
  ·exact(hs.2 b (ya (zV (yo e) I.ok.above))).trans (I.base.keep b o e n hb hx)
  ·let⟨sl,e1⟩:=I.base.slot b o e n hb hx
   exact{sl,(hs.2 b (ya (zV (yo e) I.ok.above))).trans e1}
  ·let⟨o',e1⟩:=I.base.there b o e hx
   exact{o',(hs.2 b (ya (zV (yo e) I.ok.above))).trans e1}
  ·by_cases hj:j=i
   ·subst hj
    rw[hi] at e1;cases e1;rw[List.getElem?_set_self hiU] at e2;cases e2;exact{u,r,.inl {hk,by simp}}
   ·rw[List.getElem?_set_ne (Ne.symm hj)] at e2
    let⟨u',r',q⟩:=hl j y v' e1 e2 e3;refine{u',r',?_};rcases q with⟨k,e⟩ | ⟨k,c,e,z⟩
    ·refine .inl {k,?_}
     have:y≠x:=λe=>hj (qV hN e1 (e▸hi));simp[this,e]
    ·exact .inr {k,c,e,z.sameBut hs (FY y c e)}
  ·let⟨w',z⟩:=I.cell y c e
   exact{w',z.sameBut hs (FY y c e)}
  ·let⟨e,n,ne,nf,d⟩:=I.pin p hp
   exact{(hs.2 p.1 ne).trans e,n,ne,nf,d}
 ·let hfn:X.fn x=true:=by
   rcases hf with z | z
   ·exact z
   ·rw[z] at hk;cases hk
  let⟨c,hc⟩:=I.ok.has x (.inl hk);let⟨w',z⟩:=I.cell x c hc;refine wpAny_storeName_cell I.ok.kind hk hc z (λh' hc' hs=>?_);let⟨oc,hoc,hocd⟩:=id z;refine h {s with heap:=h'} {I.ok,I.os,I.bare,{λb o e n hb hx=>?_,λb o e n hb hx=>?_,I.base.free,λb o e hx=>?_,I.base.jA,I.base.iE,I.base.jB},{m,hn.sameBut hs (Ne.symm (FY x c hc)),λj y v' e1 e2 e3=>?_},λy c' e=>?_,I.free,I.gi,λp hp=>?_,tracked {oc,hoc,I.gi x c hc} hs,by simpa using I.len} {c,hs,.inr hc}
  ·exact(hs.2 b (ya (zV (yo e) (I.ok.Nr x c hfn hc)))).trans (I.base.keep b o e n hb hx)
  ·let⟨sl,e1⟩:=I.base.slot b o e n hb hx
   exact{sl,(hs.2 b (ya (zV (yo e) (I.ok.Nr x c hfn hc)))).trans e1}
  ·let⟨o',e1⟩:=I.base.there b o e hx
   exact{o',(hs.2 b (ya (zV (yo e) (I.ok.Nr x c hfn hc)))).trans e1}
  ·by_cases hj:j=i
   ·subst hj
    rw[hi] at e1;cases e1;rw[List.getElem?_set_self hiU] at e2;cases e2;exact{u,r,.inr {.inl hk,c,hc,hc'}}
   ·rw[List.getElem?_set_ne (Ne.symm hj)] at e2
    let⟨u',r',q⟩:=hl j y v' e1 e2 e3;refine{u',r',?_};rcases q with q | ⟨k,c',e,z'⟩
    ·exact .inl q
    ·refine .inr {k,c',e,z'.sameBut hs ?_}
     rintro rfl;exact hj (qV hN e1 (I.ok.inj _ _ _ e hc▸hi))
  ·by_cases hcc:c'=c
   ·subst hcc;exact{_,hc'}
   ·let⟨w2,z2⟩:=I.cell y c' e
    exact{w2,z2.sameBut hs hcc}
  ·let⟨e,n,ne,nf,d⟩:=I.pin p hp
   refine{(hs.2 p.1 ?_).trans e,n,ne,nf,d};intro q;rw[q,hoc] at e;let q':oc=p.2:=yb e;exact d w' (by rw[<-q'];exact hocd)
def ig (I:Inv X pins U H s) (hN:X.N.Nodup) (hi:X.N[i]?=some x) (hx:Loc X.env.scope x) (r:RelV v u)
  (h:∀s',Inv X pins (U.set i (some v)) H s'->Q .unit s') (hf:X.fn x=true\/X.env.scope.names.lookup x=some .local<|>qa_):wpAny M A (storeName X.env x u) Q E s:=
 uC I hN hi hx r (λs' I' _=>h s' I') hf
def Inv.F0 (I:Inv X pins U H s) (ho:s'.os=s.os) (u:Un (gr X.stack) ch H H' s.heap s'.heap) (aT:kQ X.prog X.w H' s'.heap) (hg:AllBare s'.gens)
  (hch:∀b∈ch,(b∈X.ex\/X.s₀.heap.objs.size<=b)/\b≠X.env.locals/\(∀x c,X.env.cells.lookup x=some c->c≠b)/\∀p∈X.pn++pins,p.1≠b):Inv X pins U H' s':=by
 let⟨h',g',d',t',o'⟩:=s';let e:o'=s.os:=ho;subst e;exact I.call (g':=g') (t':=t') (d':=d') u aT hg hch
end
abbrev XK:=wM->Option wV->Hp->Prop
abbrev St:=List (Option V)
abbrev VK:=V->Hp->Prop
abbrev TE:=St->Hp->VK->Prop
abbrev TT:=St->Hp->(Bool->Hp->Prop)->Prop
abbrev TA:=St->Hp->(List V->Hp->Prop)->Prop
structure Ends where
 nx:St->Hp->Prop
 rt:VK
 bk:St->Hp->Prop:=λ_ _=>False
 ct:St->Hp->Prop:=λ_ _=>False
abbrev TS:=Ends->St->Hp->Prop
def EP (X:Cx) (pins:List (wV×Obj)) (U:St) (Q:VK) (u:wM) (s':wN):Prop:=∃v H',Inv X pins U H' s'/\RelV v u/\Q v H'
def TP (X:Cx) (pins:List (wV×Obj)) (U:St) (Q:Bool->Hp->Prop) (b:Bool) (s':wN):Prop:=∃H',Inv X pins U H' s'/\Q b H'
def AP (X:Cx) (pins:List (wV×Obj)) (U:St) (Q:List V->Hp->Prop) (us:List wM) (s':wN):Prop:=∃vs H',Inv X pins U H' s'/\Vals vs us/\Q vs H'
def SP (X:Cx) (pins:List (wV×Obj)) (D:Ends) (f:Flow) (s':wN):Prop:=
 match f with
 | .next=>∃U' H',Inv X pins U' H' s'/\D.nx U' H'
 | .brk=>∃U' H',Inv X pins U' H' s'/\D.bk U' H'
 | .cont=>∃U' H',Inv X pins U' H' s'/\D.ct U' H'
 | .ret u=>∃v U' H',Inv X pins U' H' s'/\RelV v u/\D.rt v H'
def PE (X:Cx) (e:Expr) (t:TE):Prop:=
 ∀(pins:List (wV×Obj)) (s:wN) (U:St) (H:Hp) (Q:VK),Inv X pins U H s->t U H Q->wpAny (model X.prog X.w) X.A (eval e X.env) (EP X pins U Q) X.xe s
def PT (X:Cx) (e:Expr) (t:TT):Prop:=
 ∀(pins:List (wV×Obj)) (s:wN) (U:St) (H:Hp) (Q:Bool->Hp->Prop),Inv X pins U H s->t U H Q->wpAny (model X.prog X.w) X.A (isTrue e X.env (eval e X.env)) (TP X pins U Q) X.xe s
def PW (X:Cx) (e:Expr) (t:TT):Prop:=
 ∀(whole:Sem wM) (pins:List (wV×Obj)) (s:wN) (U:St) (H:Hp) (Q:Bool->Hp->Prop),Inv X pins U H s->t U H Q->wpAny (model X.prog X.w) X.A (isTrue e X.env whole) (TP X pins U Q) X.xe s
def PW.pt (h:PW X e t):PT X e t:=h _
def PA (X:Cx) (es:List Expr) (t:TA):Prop:=
 ∀(pos:Pos) (pins:List (wV×Obj)) (s:wN) (U:St) (H:Hp) (Q:List V->Hp->Prop),Inv X pins U H s->t U H Q->wpAny (model X.prog X.w) X.A (spliced (backTo pos (starEach es X.env))) (AP X pins U Q) X.xe s
def PS (X:Cx) (st:Stmt) (t:TS):Prop:=
 ∀(pins:List (wV×Obj)) (s:wN) (U:St) (H:Hp) (D:Ends),Inv X pins U H s->t D U H->wpAny (model X.prog X.w) X.A (exec st X.env) (SP X pins D) X.xe s
def uk (X:Cx) (st:List Stmt) (t:TS):Prop:=
 ∀(pins:List (wV×Obj)) (s:wN) (U:St) (H:Hp) (D:Ends),Inv X pins U H s->t D U H->wpAny (model X.prog X.w) X.A (execs st X.env) (SP X pins D) X.xe s
def bR (h:wpAny M A t Q E s) (hQ:∀a s,Q a s->Q' a s):wpAny M A t Q' E s:=yV h hQ λ_ _ x=>x
end L2
namespace L2
open PySem PySem.Spec PyProof.Rows
section
variable {X:Cx}
def aK (i:Nat):TE:=λU H Q=>∃v,U[i]?=some (some v)/\Q v H
def tC (v:V):TE:=λ_ H Q=>Q v H
def MJ (hN:X.N[i]?=some x) (hv:LW X.env.scope x) (hd:(x == ("__debug__": Str))=false<|>qb_) (hcd:(x == ("__classdict__": Str))=false<|>qb_):PE X (.Name x pos) (aK i):=by
 intro pins s U H Q I h;let⟨v,e,h⟩:=h;let⟨m,hn,hl⟩:=I.loc;let⟨u,r,l⟩:=hl i x v hN e hv;let fin:EP X pins U Q u s:={(v),H,I,r,h}
 rcases l with⟨hk,hm⟩ | ⟨hk,c,hc,hcell⟩
 ·exact wpAny_Name (wpAny_loadName_local I.ok.kind hk hn hm fin) hd
 ·rcases hk with hk | hk
  ·exact wpAny_Name (wpAny_loadName_cell I.ok.kind hk hc hcell fin) hd
  ·exact wpAny_Name (wpAny_loadName_free I.ok.kind hk hc hcell fin hcd) hd
def ah:PE X (.Constant (.int i) j pos) (tC (.int i)):=λ_ _ _ H _ I h=>wpAny_Constant_int {.int i,H,I.tok _,{_,rfl},h}
def fe:PE X (.Constant (.bool b) j pos) (tC (.bl b)):=λ_ _ _ H _ I h=>Constant_bool {.bl b,H,I,rfl,h}
def aH:PE X (.Constant .none j pos) (tC .aU):=λ_ _ _ H _ I h=>Constant_none {.aU,H,I,rfl,h}
def ay:PE X (.Constant (.str x) j pos) (tC (.str x)):=λ_ _ _ H _ I h=>Calls.Constant_str {.str x,H,I.tok _,{_,rfl},h}
def Gl (X:Cx) (x:Str):Prop:=X.env.kindOf x=some .globalImplicit
def d6 (I:Inv X pins U H s) (hg:Gl X x) (hm:X.mg x=some u) (h:Q u s)
  (hd:(x == ("__debug__": Str))=false<|>qb_):wpAny (model X.prog X.w) X.A (eval (.Name x pos) X.env) Q E s:=
 Calls.Name_function_global I.ok.kind hg (Calls.loadGlobal_global (by rw[I.ok.glob];exact I.mod.glob.keeps I.bk) hm h) hd
def j7 (I:Inv X pins U H s) (hg:Gl X x) (hm:X.mg x=none) (hv:bootBuiltins x=some u) (h:Q u s)
  (hn:x≠ "__name__"<|>qb_) (hd:(x == ("__debug__": Str))=false<|>qb_):wpAny (model X.prog X.w) X.A (eval (.Name x pos) X.env) Q E s:=by
 let⟨mb,h1,h2⟩:=I.mod.blt;exact Calls.Name_function_global I.ok.kind hg (Calls.loadGlobal_builtin (by rw[I.ok.glob];exact I.mod.glob.keeps I.bk) hm (by rw[I.ok.blt];exact h1.keeps I.bk) ((h2 x hn).trans hv) h) hd
def aN (hg:Gl X x) (hm:X.mg x=some u) (r:RelV v u) (hd:(x == ("__debug__": Str))=false<|>qb_):PE X (.Name x pos) (tC v):=
 λ_ _ _ H _ I h=>d6 I hg hm {(v),H,I,r,h} hd
def FF (hg:Gl X x) (hm:X.mg x=none) (hv:bootBuiltins x=some u) (r:RelV v u) (hn:x≠ "__name__"<|>qb_) (hd:(x == ("__debug__": Str))=false<|>qb_):PE X (.Name x pos) (tC v):=
 λ_ _ _ H _ I h=>j7 I hg hm hv {(v),H,I,r,h} hn hd
variable {a b:Expr} {ta tb:TE} {pos:Pos}
def PC (X:Cx) (op:CmpOp) (a b:Expr) (t:TE):Prop:=
 ∀(pins:List (wV×Obj)) (s:wN) (U:St) (H:Hp) (Q:VK),Inv X pins U H s->t U H Q->
  wpAny (model X.prog X.w) X.A (eval a X.env) (λv s₁=>wpAny (model X.prog X.w) X.A (eval b X.env) (λu s₂=>wpAny (model X.prog X.w) X.A (compareOp op v u) (EP X pins U Q) X.xe s₂) X.xe s₁) X.xe s
def Ct (b:Expr) (h:op≠.In) (h2:op≠.NotIn):behindInMarks op b=false:=by
 let e1:(op == CmpOp.In)=false:=by cases op <;> first | rfl | exact absurd rfl h
 let e2:(op == CmpOp.NotIn)=false:=by cases op <;> first | rfl | exact absurd rfl h2
 cases b <;> simp[behindInMarks,e1,e2]
def HQ (ta:TE):TE:=λU H Q=>ta U H λx H1=>Q (.bl (decide (x=.aU))) H1
def HN (ta:TE):TE:=λU H Q=>ta U H λx H1=>Q (.bl (!decide (x=.aU))) H1
def RelV.Cs (r:RelV x v):(v == Value.none)=decide (x=.aU):=by
 cases x with
 | aU=>cases r;rfl
 | bl _=>cases r;rfl
 | int _=>let⟨t,rfl⟩:=r;rfl
 | str _=>let⟨t,rfl⟩:=r;rfl
 | F1 _=>let⟨t,rfl⟩:=r;rfl
 | K2 _=>let⟨t,rfl⟩:=r;rfl
 | ref _=>cases r;rfl
 | ty _=>cases r;rfl
def bO (ha:PE X a ta):PC X .Is a (.Constant .none j pos') (HQ ta):=by
 intro pins s U H Q I h;refine bR (ha pins s U H _ I h) λv s1 zz=>?_;let⟨x,H1,I1,r1,q1⟩:=zz;exact Constant_none (is_none_gen {.bl _,H1,I1,by rw[r1.Cs];rfl,q1})
def iX (ha:PE X a ta):PC X .IsNot a (.Constant .none j pos') (HN ta):=by
 intro pins s U H Q I h;refine bR (ha pins s U H _ I h) λv s1 zz=>?_;let⟨x,H1,I1,r1,q1⟩:=zz;exact Constant_none (isnot_none_gen {.bl _,H1,I1,by rw[r1.Cs];rfl,q1})
def tB (t:TE):TT:=λU H Q=>t U H λx H1=>∃c,x=.bl c/\Q c H1
def nS (h:PC X op a b t) (h1:behindInMarks op b=false<|>qc_):PE X (.Compare a [op] [b] pos) t:=λpins s U H Q I hw=>wpAny_Compare1 (h pins s U H Q I hw) h1
def aY (h:PC X op a b t) (h1:behindInMarks op b=false<|>qc_):PT X (.Compare a [op] [b] pos) (tB t):=by
 intro pins s U H Q I hw;refine wpAny_isTrue_Compare1 (bR (h pins s U H _ I hw) λv s1 h1=>bR h1 λu s2 h2=>bR h2 λc s3 ⟨x,H1,I1,r1,q1⟩=>?_) h1;let⟨d,rfl,q⟩:=q1;cases r1;exact yW {(H1),I1,q}
def bf (h:PE X e t) (he:(∀whole,isTrue e X.env whole=(do let v <-whole;standAt e.pos;holding [v] (truthy v)))<|>qd_):PT X e (tB t):=by
 intro pins s U H Q I hw;refine isTrue_plain (bR (h pins s U H _ I hw) λv s1 ⟨x,H1,I1,r1,q1⟩=>?_) (he _);let⟨d,rfl,q⟩:=q1;cases r1;exact yW {(H1),I1,q}
variable {tA tB':TT} {rest:List Expr}
def Oa (t u:TT):TT:=λU H Q=>t U H λc H1=>if c=true then u U H1 Q else Q false H1
def Qw (t u:TT):TT:=λU H Q=>t U H λc H1=>if c=true then Q true H1 else u U H1 Q
def HP (t:TT):TT:=λU H Q=>t U H λc H1=>Q (!c) H1
def c7 (ha:PT X a tA):PW X (.BoolOp .And [a] pos) tA:=by
 intro wh pins s U H Q I h;refine isTrue_and (bR (ha pins s U H Q I h) λc s1 e=>?_);cases c with
 | true=>exact isTrue_and_nil e
 | false=>exact e
def cu (ha:PT X a tA):PW X (.BoolOp .Or [a] pos) tA:=by
 intro wh pins s U H Q I h;refine isTrue_or (bR (ha pins s U H Q I h) λc s1 e=>?_);cases c with
 | false=>exact isTrue_or_nil e
 | true=>exact e
def d0 (ha:PT X a tA) (hb:PW X (.BoolOp .And (b::rest) pos) tB'):PW X (.BoolOp .And (a::b::rest) pos) (Oa tA tB'):=by
 intro wh pins s U H Q I h;refine isTrue_and (bR (ha pins s U H _ I h) λc s1 ⟨H1,I1,q1⟩=>?_);cases c with
 | true=>exact hb wh pins s1 U H1 Q I1 q1
 | false=>exact{(H1),I1,q1}
def dh (ha:PT X a tA) (hb:PW X (.BoolOp .Or (b::rest) pos) tB'):PW X (.BoolOp .Or (a::b::rest) pos) (Qw tA tB'):=by
 intro wh pins s U H Q I h;refine isTrue_or (bR (ha pins s U H _ I h) λc s1 ⟨H1,I1,q1⟩=>?_);cases c with
 | true=>exact{(H1),I1,q1}
 | false=>exact hb wh pins s1 U H1 Q I1 q1
def cv (ha:PT X a tA):PT X (.UnaryOp .Not a pos) (HP tA):=by
 intro pins s U H Q I h;exact isTrue_not (ha pins s U H (λc H1=>Q (!c) H1) I h)
def Ly (ta tb:TE):TE:=λU H Q=>ta U H λx H1=>∃c,x=.bl c/\if c=true then tb U H1 Q else Q (.bl false) H1
def N5 (ta tb:TE):TE:=λU H Q=>ta U H λx H1=>∃c,x=.bl c/\if c=true then Q (.bl true) H1 else tb U H1 Q
def N6 (ta:TE):TE:=λU H Q=>ta U H λx H1=>∃c,x=.bl c/\Q (.bl (!c)) H1
def hU (h:PE X a t):PE X (.BoolOp op [a] pos) t:=λpins s U H Q I hw=>BoolOp_one (h pins s U H Q I hw)
def gd (ha:PE X a ta) (hb:PE X (.BoolOp .And (b::rest) pos) tb):PE X (.BoolOp .And (a::b::rest) pos) (Ly ta tb):=by
 intro pins s U H Q I h;refine BoolOp_and (bR (ha pins s U H _ I h) λv s1 zz=>?_);let⟨x,H1,I1,r1,q1⟩:=zz;let⟨c,rfl,q1⟩:=q1;cases r1;refine yW ?_;cases c with
 | true=>exact hb pins s1 U H1 Q I1 q1
 | false=>exact{.bl false,H1,I1,rfl,q1}
def LL (ha:PE X a ta) (hb:PE X (.BoolOp .Or (b::rest) pos) tb):PE X (.BoolOp .Or (a::b::rest) pos) (N5 ta tb):=by
 intro pins s U H Q I h;refine BoolOp_or (bR (ha pins s U H _ I h) λv s1 zz=>?_);let⟨x,H1,I1,r1,q1⟩:=zz;let⟨c,rfl,q1⟩:=q1;cases r1;refine yW ?_;cases c with
 | false=>exact hb pins s1 U H1 Q I1 q1
 | true=>exact{.bl true,H1,I1,rfl,q1}
end
end L2
namespace L2
open PySem PySem.Spec PyProof.Rows
def aD (K:yr) (H:Hp) (a:wV) (xs:List V):Prop:=
 Rd H a (.lst xs)\/
  ∃(o:Obj) (its:Array wM) (n:Nat),K.lookup a=some o/\o.cls=.type "list"/\o.dict=none/\o.data=.seq its n/\its.size<=sizeLine/\Vals xs its.toList
def cx (K:yr) (H:Hp) (a:wV) (xs:List V):Prop:=
 Rd H a (.tup xs)\/
  ∃(o:Obj) (its:Array wM) (n:Nat),K.lookup a=some o/\o.cls=.type "tuple"/\o.data=.seq its n/\its.size<=sizeLine/\Vals xs its.toList
def Qo:wM->Option V
 | .none=>some .aU
 | .bool b=>some (.bl b)
 | .int i _=>some (.int i)
 | .str x _=>some (.str x)
 | .bytes b _=>some (.F1 b)
 | .float b _=>some (.K2 b)
 | .ref a=>some (.ref a)
 | .type n=>some (.ty n)
 | _=>none
def RelV.abs (r:RelV x u):Qo u=some x:=by
 cases x with
 | aU=>cases r;rfl
 | bl _=>cases r;rfl
 | int _=>let⟨t,rfl⟩:=r;rfl
 | str _=>let⟨t,rfl⟩:=r;rfl
 | F1 _=>let⟨t,rfl⟩:=r;rfl
 | K2 _=>let⟨t,rfl⟩:=r;rfl
 | ref _=>cases r;rfl
 | ty _=>cases r;rfl
def RelV.inj (r:RelV x u) (q:RelV y u):x=y:=yb (r.abs.symm.trans q.abs)
theorem Vals.inj:∀{xs ys:List V} {us:List wM},Vals xs us->Vals ys us->xs=ys
 | _,_,_,.nil,.nil=>rfl
 | _,_,_,.cons r t,.cons r' t'=>by rw[r.inj r',Vals.inj t t']
section
variable {X:Cx} {pins:List (wV×Obj)} {U:St} {H:Hp} {s:wN} {a:wV} {xs ys:List V}
def aD.of {K:yr} (h:H a=some (.lst xs)):aD K H a xs:=.inl (.inl h)
def cx.of {K:yr} (h:H a=some (.tup xs)):cx K H a xs:=.inl (.inl h)
def Inv.list (I:Inv X pins U H s) (h:aD X.K H a xs):∃its:List wM,Vals xs its/\PlainL s.heap a its.toArray/\⇑xs<=sizeLine:=by
 rcases h with h | ⟨o,its,n,hk,hc,hd,hs,hz,r⟩
 ·let⟨z,its,n,r,e⟩:=h.ok I.aT
  exact{its,r,{_,n,e,rfl,rfl,rfl},z}
 ·refine{its.toList,r,{o,n,I.ie a o hk,hc,hd,by simpa using hs},?_}
  let e:=⇑r;simp only[yH] at e;ext
def Inv.tuple (I:Inv X pins U H s) (h:cx X.K H a xs):∃its:List wM,Vals xs its/\IsTup s.heap a its.toArray/\⇑xs<=sizeLine:=by
 rcases h with h | ⟨o,its,n,hk,hc,hs,hz,r⟩
 ·let⟨z,its,r,p⟩:=h.ok I.aT
  exact{(its),r,p,z}
 ·refine{its.toList,r,{o,I.ie a o hk,hc,n,by simpa using hs},?_}
  let e:=⇑r;simp only[yH] at e;ext
def Inv.qZ (I:Inv X pins U H s) (h:aD X.K H a xs) (h':aD X.K H a ys):xs=ys:=by
 let⟨its,r,⟨o,n,e,_,_,d⟩,_⟩:=I.list h;let⟨its',r',⟨o',n',e',_,_,d'⟩,_⟩:=I.list h';rw[e] at e';cases e';rw[d] at d';injection d' with d1 _;have:its=its':=by simpa using yQ Array.toList d1
 subst this;exact r.inj r'
def Inv.uz (I:Inv X pins U H s) (h:cx X.K H a xs) (h':cx X.K H a ys):xs=ys:=by
 let⟨its,r,⟨o,e,_,n,d⟩,_⟩:=I.tuple h;let⟨its',r',⟨o',e',_,n',d'⟩,_⟩:=I.tuple h';rw[e] at e';cases e';rw[d] at d';injection d' with d1 _;have:its=its':=by simpa using yQ Array.toList d1
 subst this;exact r.inj r'
end
abbrev Cx.kR (X:Cx) (E:wM->wN->Prop):Cx:={X with xe:=E}
abbrev Cx.Bt (X:Cx):Cx:=X.kR λ_ _=>False
theorem Cx.Ok.kR {X:Cx} (ok:X.Ok) (E:wM->wN->Prop):(X.kR E).Ok:=
 {(ok.mod),ok.kind,ok.glob,ok.blt,ok.above,ok.inj,ok.has,ok.Nr,ok.hd,ok.frames,ok.NH,ok.Pe,ok.bs,ok.Hr,ok.jC,ok.EA,ok.kf,ok.AG}
def Cx.Ok.dX {X:Cx} {E:wM->wN->Prop} (ok:(X.kR E).Ok):X.Ok:=
 {(ok.mod),ok.kind,ok.glob,ok.blt,ok.above,ok.inj,ok.has,ok.Nr,ok.hd,ok.frames,ok.NH,ok.Pe,ok.bs,ok.Hr,ok.jC,ok.EA,ok.kf,ok.AG}
section
variable {X:Cx} {pins:List (wV×Obj)} {U:St} {H:Hp} {s:wN} {E:wM->wN->Prop}
theorem Inv.kR (I:Inv X pins U H s) (E:wM->wN->Prop):Inv (X.kR E) pins U H s:={I.ok.kR E,I.os,I.bare,I.base,I.loc,I.cell,I.free,I.gi,I.pin,I.aT,I.len}
theorem Inv.dX (I:Inv (X.kR E) pins U H s):Inv X pins U H s:={(I.ok.dX),I.os,I.bare,I.base,I.loc,I.cell,I.free,I.gi,I.pin,I.aT,I.len}
theorem SP.dX (h:SP (X.kR E) pins D f s'):SP X pins D f s':=by
 cases f with
 | next=>let⟨U',H',I,q⟩:=h;exact{U',H',I.dX,q}
 | brk=>let⟨U',H',I,q⟩:=h;exact{U',H',I.dX,q}
 | cont=>let⟨U',H',I,q⟩:=h;exact{U',H',I.dX,q}
 | ret u=>let⟨v,U',H',I,r,q⟩:=h;exact{v,U',H',I.dX,r,q}
theorem uk.Bt {st:List Stmt} {t:TS} (h:uk X.Bt st t):uk X st t:=λpins s U H D I hw=>
 yV (h pins s U H D (I.kR _) hw) (λ_ _ q=>q.dX) λ_ _ z=>False.elim z
end
section
variable {X:Cx} {st:Stmt} {rest:List Stmt} {t u:TS} {e:Expr} {te:TE} {pos:Pos}
def uA:TS:=λD U H=>D.nx U H
def nu (t u:TS):TS:=λD U H=>t {D with nx:=u D} U H
def ak:uk X [] uA:=λ_ _ U H _ I h=>xU {U,H,I,h}
def ae (h1:PS X st t) (h2:uk X rest u):uk X (st::rest) (nu t u):=by
 intro pins s U H D I h;refine wpAny_execs_cons (bR (h1 pins s U H {D with nx:=u D} I h) λf s1 q=>?_);cases f with
 | next=>
  let⟨U',H',I',q⟩:=q;exact h2 pins s1 U' H' D I' q
 | ret v=>exact q
 | brk=>exact q
 | cont=>exact q
def ai (h1:PS X st t):uk X [st] t:=by
 intro pins s U H D I h;refine wpAny_execs_cons (bR (h1 pins s U H D I h) λf s1 q=>?_);cases f with
 | next=>exact xU q
 | ret v=>exact q
 | brk=>exact q
 | cont=>exact q
def Inv.quiet (I:Inv X pins U H s):interactive X.env=false:=by simp[interactive,I.ok.kind]
def HR (te:TE):TS:=λD U H=>te U H λ_ H1=>D.nx U H1
def eT (he:PE X e te) (hs:swapsWith e none pos.line X.env=pure false<|>qe_):PS X (.Expr e pos) (HR te):=by
 intro pins s U H D I h;exact wpAny_Expr_any (bR (he pins s U H _ I h) λv s1 ⟨x,H1,I1,r1,q1⟩=>{U,H1,I1,q1}) I.quiet hs
def DO (te:TE):TS:=λD U H=>te U H D.rt
def aj (he:PE X e te):PS X (.Return (some e) pos) (DO te):=by
 intro pins s U H D I h;exact wpAny_Return_some (bR (he pins s U H _ I h) λv s1 ⟨x,H1,I1,r1,q1⟩=>{x,U,H1,I1,r1,q1})
def sD (c:TT) (t u:TS):TS:=λD U H=>c U H λb H1=>if b=true then t D U H1 else u D U H1
def ax (hc:PT X c tc) (ha:uk X a t) (hb:uk X b u):PS X (.If c a b pos) (sD tc t u):=by
 intro pins s U H D I h;refine wpAny_If (bR (hc pins s U H _ I h) λd s1 ⟨H1,I1,q1⟩=>?_);cases d with
 | true=>exact ha pins s1 U H1 D I1 q1
 | false=>exact hb pins s1 U H1 D I1 q1
end
abbrev TG:=V->St->Hp->(St->Hp->Prop)->Prop
abbrev O0:=List V->St->Hp->(St->Hp->Prop)->Prop
def PG (X:Cx) (target:Expr) (t:TG):Prop:=
 ∀(pins:List (wV×Obj)) (s:wN) (U:St) (H:Hp) (v:V) (u:wM) (Q:St->Hp->Prop),Inv X pins U H s->RelV v u->t v U H Q->
  wpAny (model X.prog X.w) X.A (assign target X.env u) (λ_ s'=>∃U' H',Inv X pins U' H' s'/\Q U' H') X.xe s
def Pg (X:Cx) (ts:List Expr) (t:O0):Prop:=
 ∀(pins:List (wV×Obj)) (s:wN) (U:St) (H:Hp) (vs:List V) (us:List wM) (Q:St->Hp->Prop),Inv X pins U H s->Vals vs us->t vs U H Q->
  wpAny (model X.prog X.w) X.A (assignInOrder ((assignEach ts X.env).map (·.2)) us) (λ_ s'=>∃U' H',Inv X pins U' H' s'/\Q U' H') X.xe s
abbrev Nx:=V->V->V->Hp->(Hp->Prop)->Prop
def O2 (X:Cx) (t:Nx):Prop:=
 ∀(pins:List (wV×Obj)) (s:wN) (U:St) (H:Hp) (o i v:V) (ov iv u:wM) (Q:Hp->Prop),Inv X pins U H s->RelV o ov->RelV i iv->RelV v u->t o i v H Q->
  wpAny (model X.prog X.w) X.A (setItem ov iv u) (λ_ s'=>∃H',Inv X pins U H' s'/\Q H') X.xe s
section
variable {X:Cx} {pos:Pos}
def bH (i:Nat):TG:=λv U H Q=>Q (U.set i (some v)) H
def FC (hN:X.N.Nodup) (hi:X.N[i]?=some x) (hx:Loc X.env.scope x) (hf:X.fn x=true\/X.env.scope.names.lookup x=some .local<|>qa_):PG X (.Name x pos) (bH i):=by
 intro pins s U H v u Q I r h;exact wpAny_assign_Name (ig I hN hi hx r (λs' I'=>{_,H,I',h}) hf)
def GU:O0:=λvs U H Q=>vs=[]/\Q U H
def ke (t:TG) (u:O0):O0:=λvs U H Q=>∃v r,vs=v::r/\t v U H λU' H'=>u r U' H' Q
def gE:Pg X [] GU:=by
 intro pins s U H vs us Q I r h;let⟨e,h⟩:=h;subst e;cases r;exact assignInOrder_nil {U,H,I,h}
def bQ (h1:PG X e t) (h2:Pg X es u)
  (hs:(assignEach (e::es) X.env).map (·.2)=assign e X.env::(assignEach es X.env).map (·.2)<|>qe_):Pg X (e::es) (ke t u):=by
 intro pins s U H vs us Q I r h;let⟨v,vr,e1,h⟩:=h;subst e1;cases r with
 | cons r rr=>
  rw[hs];refine assignInOrder_cons (bR (h1 pins s U H _ _ _ I r h) λ_ s1 ⟨U1,H1,I1,q1⟩=>?_);exact h2 pins s1 U1 H1 _ _ Q I1 rr q1
def GS (K:yr) (n:Nat) (t:O0):TG:=λv U H Q=>∃a xs,v=.ref a/\cx K H a xs/\⇑xs=n/\t xs U H Q
def jU (hc:X.calm=true) (h:Pg X es t)
  (hn:⇑(assignEach es X.env)=n<|>qe_) (hst:(assignEach es X.env).findIdx? (·.1)=none<|>qe_):PG X (.Tuple es k pos) (GS X.K n t):=by
 intro pins s U H v u Q I r hw;let⟨a,xs,e1,hq,hl,hw⟩:=hw;subst e1;cases r;let⟨its,rv,ht,hz⟩:=I.tuple hq;refine assign_Tuple_tuple (I.ok.hd hc) ht (by simp[hn,<-hl,⇑rv]) hst λh' hx=>?_;let I1:Inv X pins U H {s with heap:=h'}:=I.kept (t':=s.toks) λb o e=>hx b o (ya (yo e)) e;exact h pins _ U H xs _ Q I1 (by simpa using rv) hw
def OO (to ti:TE) (t:Nx):TG:=λv U H Q=>to U H λo H1=>ti U H1 λi H2=>t o i v H2 λH3=>Q U H3
def MI {o i:Expr} {to ti:TE} {t:Nx} (ho:PE X o to) (hi:PE X i ti) (hs:O2 X t)
  (ha:(∀v,assign (.Subscript o i pos) X.env v=(do
   let ov <-holding [v] (eval o X.env)
   let iv <-holding [v,ov] (eval i X.env)
   standAt pos
   holding [v,ov,iv] (setItem ov iv v)
   release [v,ov,iv] []))<|>qd_):PG X (.Subscript o i pos) (OO to ti t):=by
 intro pins s U H v u Q I r h;rw[ha];refine yj (xo (bR (ho pins s U H _ I h) λov s1 zz=>?_));let⟨x,H1,I1,r1,q1⟩:=zz;refine yj (xo (bR (hi pins s1 U H1 _ I1 q1) λiv s2 zz=>?_));let⟨y,H2,I2,r2,q2⟩:=zz;refine yj (wpAny_standAt (yj (xo (bR (hs pins s2 U H2 x y v ov iv u _ I2 r1 r2 r q2) λ_ s3 ⟨H3,I3,q3⟩=>?_))));exact wpAny_release {U,H3,I3,q3}
def jK (te:TE) (g:TG):TS:=λD U H=>te U H λx H1=>g x U H1 D.nx
def ME {tg e:Expr} {te:TE} {g:TG} (he:PE X e te) (hg:PG X tg g) (hs:swapsWithSole [tg] e pos.line X.env=pure false<|>qe_) (hw:swappedStores [tg] e X.env=pure none<|>qe_)
  (h1:(assignEach [tg] X.env).map (·.2)=[assign tg X.env]<|>qe_):PS X (.Assign [tg] e pos) (jK te g):=by
 intro pins s U H D I h;refine wpAny_Assign_stores (bR (he pins s U H _ I h) λv s1 ⟨x,H1,I1,r1,q1⟩=>?_) hs hw;rw[h1];exact bR (hg pins s1 U H1 x v _ I1 r1 q1) λ_ s2 q=>q
def MD (hN:X.N.Nodup) (hi:X.N[i]?=some x) (hx:Loc X.env.scope x) (he:PE X e te) (hs:swapsWith e (some (.Name x pos')) pos.line X.env=pure false<|>qe_) (hf:X.fn x=true\/X.env.scope.names.lookup x=some .local<|>qa_) :
  PS X (.Assign [.Name x pos'] e pos) (jK te (bH i)):=by
 intro pins s U H D I h;refine wpAny_Assign_Name (bR (he pins s U H _ I h) λv s1 ⟨y,H1,I1,r1,q1⟩=>?_) hs;exact ig I1 hN hi hx r1 (λs2 I2=>{_,H1,I2,q1}) hf
def N4 (i j:Nat) (ta:TA):TS:=λD U H=>ta U H λvs H1=>∃v w,vs=[v,w]/\D.nx ((U.set i (some v)).set j (some w)) H1
def Ed (hc:X.calm=true) (hN:X.N.Nodup) (hi:X.N[i]?=some x) (hj:X.N[j]?=some y) (hij:i≠j)
  (hx:X.env.scope.names.lookup x=some .local) (hy:X.env.scope.names.lookup y=some .local) (ha:PA X [a,b] ta)
  (hw:swappedStores [.Tuple [.Name x px,.Name y py] kt pt] (.Tuple [a,b] k2 pt2) X.env=pure (some [x,y]))
  (hs:swapsWithSole [.Tuple [.Name x px,.Name y py] kt pt] (.Tuple [a,b] k2 pt2) pos.line X.env=pure false<|>qe_) :
  PS X (.Assign [.Tuple [.Name x px,.Name y py] kt pt] (.Tuple [a,b] k2 pt2) pos) (N4 i j ta):=by
 intro pins s U H D I h;rw[exec_Assign_arm];refine yj (wpAny_standAt ?_);rw[hs];refine yj (ym ?_);rw[yE ∅];refine yj (Tuple_ (bR (ha _ pins s U H _ I h) λus s1 zz=>?_));let⟨vs,H1,I1,r1,q1⟩:=zz;let⟨v,w,e1,q1⟩:=q1;subst e1;obtain⟨u1,u2,rfl,rv,rw'⟩:∃u1 u2,us=[u1,u2]/\RelV v u1/\RelV w u2:=by
  cases r1 with
  | cons p q=>
   cases q with
   | cons p' q'=>
    cases q';exact{_,_,rfl,p,p'}
 refine yU ?_ (by show 2<=sizeLine;decide);let I2:Inv X pins U H1 {s1 with heap:=s1.heap.push {cls:=.type "tuple",data:=.seq [u1,u2].toArray}}:=I1.kept (t':=s1.toks) λb o e=>yk _ e;rw[hw];refine yj (ym ?_);show wpAny (model X.prog X.w) X.A (do rule "assign.swapped-stores";let items <-unpackItems (.ref ↑s1) 2 none;assignInOrder [λv=>bindName X.env y v,λv=>bindName X.env x v] items.reverse;pure Flow.next) _ _ _;refine yj (wpAny_rule (yj (unpackItems_tuple (items:=#[u1,u2]) (I.ok.hd hc) (IsTup.new s1.heap _) λh' hx'=>?_)));let I3:=I2.kept (h':=h') (t':=s1.toks) λb o e=>hx' b o (ya (yo e)) e;show wpAny _ _ (assignInOrder [λv=>bindName X.env y v,λv=>bindName X.env x v] [u2,u1] >>= λ_=>pure Flow.next) _ _ _;refine yj (assignInOrder_cons (wpAny_bindName (ig I3 hN hj (.inl hy) rw' (λs2 I4=>?_) (.inr hy))));refine assignInOrder_cons (wpAny_bindName (ig I4 hN hi (.inl hx) rv (λs3 I5=>assignInOrder_nil (ym ?_)) (.inr hx)));rw[List.set_comm _ _ (Ne.symm hij)] at I5;exact{_,H1,I5,q1}
end
section
variable {X:Cx} {pos:Pos}
def Mh (c:TT) (tb:TS):TS:=λD U H=>∃W:Nat->St->Hp->Prop,(∃m,W m U H)/\∀m U H,W m U H->
 c U H λb H1=>if b=true then∃N:St->Hp->Prop,(∀U' H',N U' H'->∃m',m'<m/\W m' U' H')/\tb {D with nx:=N,ct:=N,bk:=D.nx} U H1 else D.nx U H1
def B6 (hp:PassesOwn (model X.prog X.w) X.A X.env X.xe) (hc:PT X c tc) (hb:uk X body tb):PS X (.While c body [] pos) (Mh tc tb):=by
 intro pins s U H D I h;let⟨W,⟨m0,w0⟩,turn⟩:=h;refine wpAny_While (codeAny_whileLoop (λn s'=>∃U' H',Inv X pins U' H' s'/\W n U' H') ?_ m0 {U,H,I,w0});rintro n s1 ⟨U1,H1,I1,w1⟩;refine xC hp (bR (hc pins s1 U1 H1 _ I1 (turn n U1 H1 w1)) λb s2 ⟨H2,I2,q2⟩=>?_);cases b with
 | true=>
  let⟨N,hN,q2⟩:=q2;rw[yF rfl];refine xC hp (bR (hb pins s2 U1 H2 _ I2 q2) λf s3 q3=>?_);cases f with
  | next=>
   let⟨U3,H3,I3,n3⟩:=q3;let⟨m',hm,w3⟩:=hN U3 H3 n3;exact{m',hm,U3,H3,I3,w3}
  | cont=>
   let⟨U3,H3,I3,n3⟩:=q3;let⟨m',hm,w3⟩:=hN U3 H3 n3;exact{m',hm,U3,H3,I3,w3}
  | brk=>exact q3
  | ret v=>exact q3
 | false=>
  rw[yE zI];exact xU {U1,H2,I2,q2}
end
structure It where
 go:Nat->Hp->Prop
 HD:Nat->Hp->V->Hp->Prop
 stop:Nat->Hp->Prop
def uo (X:Cx) (pins:List (wV×Obj)) (H:Hp) (b:wV):Prop:=
 H b=none/\b≠X.env.locals/\b∉X.fs/\(b∈X.ex\/X.s₀.heap.objs.size<=b)/\(∀x c,X.env.cells.lookup x=some c->c≠b)/\∀p∈X.pn++pins,p.1≠b
def Inv.tJ (I:Inv X pins U H s) (hb:↑s<=b) (hn:H' b=none):uo X pins H' b:=by
 refine{hn,z9 (zV I.lt hb),I.Oy hb,.inr (zJ I.sz hb),λx c e z=>?_,λp hp z=>?_}
 ·let⟨v,q⟩:=I.cell x c e
  exact absurd (zV q.lt (by rw[z];exact hb)) (zY _)
 ·exact absurd (zV (yo (I.pin p hp).1) (by rw[z];exact hb)) (zY _)
structure Turn (P:wO) (w:wQ) (K:yr) (tg:Expr) (J:It) (fp:List wV) (it:wV) (tn:Nat->wW->Prop):Prop where
 mem:it∈fp
 obj:∀i h,tn i h->∀b∈fp,∃o,h.get? b=some o/\∀v,o.data≠.cell v
 keep:∀i h h',tn i h->(∀b∈fp,∀o,h.get? b=some o->h'.get? b=some o)->tn i h'
 item:∀(X:Cx),X.prog=P->X.w=w->X.K=K->X.calm=true->∀(i:Nat) (pins:List (wV×Obj)) (s:wN) (U:St) (H:Hp) (E:wM->wN->Prop),Inv X pins U H s->(∀b∈fp,uo X pins H b)->tn i s.heap->J.go i H->
  wpAny (model P w) X.A (pyNext (.ref it)) (λr s1=>∃u,r=some u/\
   wpAny (model P w) X.A (letOwnedTupleGo tg (.ref it) u) (λ_ s2=>∃x H',Inv X pins U H' s2/\RelV x u/\J.HD i H x H'/\tn (i+1) s2.heap/\∀b∈fp,H' b=none) E s1) E s
 done:∀(X:Cx),X.prog=P->X.w=w->X.K=K->X.calm=true->∀(i:Nat) (pins:List (wV×Obj)) (s:wN) (U:St) (H:Hp) (E:wM->wN->Prop),Inv X pins U H s->(∀b∈fp,uo X pins H b)->tn i s.heap->J.stop i H->
  wpAny (model P w) X.A (pyNext (.ref it)) (λr s1=>r=none/\Inv X pins U H s1) E s
 self:∀(A:wR) (i:Nat) (s:wN) (Q:wM->wN->Prop) (E:wM->wN->Prop),tn i s.heap->Q (.ref it) s->wpAny (model P w) A (pyIter (.ref it)) Q E s
abbrev TI:=St->Hp->(It->Hp->Prop)->Prop
def QD (X:Cx) (pins:List (wV×Obj)) (U:St) (tg:Expr) (R:It->Hp->Prop) (itv:wM) (s2:wN):Prop:=
 ∃(it:wV) (fp:List wV) (tn:Nat->wW->Prop) (J:It) (H':Hp),itv=.ref it/\Inv X pins U H' s2/\Turn X.prog X.w X.K tg J fp it tn/\tn 0 s2.heap/\(∀b∈fp,uo X pins H' b)/\R J H'
def PI (X:Cx) (tg iter:Expr) (wi:TI):Prop:=
 ∀(pins:List (wV×Obj)) (s:wN) (U:St) (H:Hp) (R:It->Hp->Prop),Inv X pins U H s->wi U H R->
  wpAny (model X.prog X.w) X.A (eval iter X.env) (λv s1=>wpAny (model X.prog X.w) X.A (pyIter v) (QD X pins U tg R) X.xe s1) X.xe s
def va (ho:s.heap.get? it=some o) (hc:o.cls=.type n) (hd:o.data=.fields vs)
    (hn:["enumerate","zip","dict_itemiterator","dict_reverseitemiterator","odict_iterator","itertools.zip_longest","itertools.pairwise"].contains n=false) (hQ:Q .unit s):wpAny M A (letOwnedTupleGo tg (.ref it) u) Q E s:=by
  unfold letOwnedTupleGo;cases tg <;> first
    | exact ym hQ
    | (cases u <;> first
        | exact ym hQ
        | (refine yj (wpAny_load ho ?_)
           rw[hc,hd];show wpAny M A (if(["enumerate","zip","dict_itemiterator","dict_reverseitemiterator","odict_iterator","itertools.zip_longest","itertools.pairwise"].contains n&&vs[0]? == some (rawInt _))=true then _ else _) Q E s;rw[yE (by intro h;rw[hn,yK] at h;cases h)];exact ym hQ))
def J0 (K:yr) (a:wV):It:=
 {λi H=>∃xs x,aD K H a xs/\xs[i]?=some x,λi H x H'=>H'=H/\∀xs,aD K H a xs->xs[i]?=some x,λi H=>∃xs,aD K H a xs/\⇑xs<=i}
def LX (K:yr) (a:wV):It:=
 {λi H=>∃xs x,cx K H a xs/\xs[i]?=some x,λi H x H'=>H'=H/\∀xs,cx K H a xs->xs[i]?=some x,λi H=>∃xs,cx K H a xs/\⇑xs<=i}
def NM (lo:Int) (n:Nat):It:={λi _=>i<n,λi H x H'=>H'=H/\x=.int (lo+i),λi _=>n<=i}
def Gf {P:wO} {w:wQ} {K:yr} {tg:Expr} (a it:wV):Turn P w K tg (J0 K a) [it] it (λi h=>h.IsListIter it a i) where
 mem:=by simp
 obj:=λi h st b hb=>by
  let e:b=it:=by simpa using hb
  subst e;let⟨o,e,c,d⟩:=st;exact{o,e,λv z=>by rw[d] at z;cases z}
 keep:=λi h h' st k=>st.at λo e=>k it (by simp) o e
 item:=by
  intro X hP hw hK hc i pins s U H E I hf st hg;subst hP hw hK;let⟨xs,x,hq,hx⟩:=hg;let⟨its,rv,p,hz⟩:=I.list hq;let⟨u,hu,ru⟩:=rv.get hx;let⟨f0,f1,f2,f3,f4,f5⟩:=hf it (by simp);refine wpAny_pyNext_list_item st p.isList (x:=u) (by simpa using hu) λh' st' sb=>?_;let I1:Inv X pins U H {s with heap:=h'}:=I.turned (t':=s.toks) (λb o hb e=>(sb.2 b hb).trans e) f0 f1 f3 f4 f5;let⟨o,e,c,d⟩:=id st';exact{u,rfl,va (s:={s with heap:=h'}) e c d ∅ {x,H,I1,ru,{rfl,λys hy=>by rw[I.qZ hy hq];exact hx},st',λb hb=>(hf b hb).1}}
 done:=by
  intro X hP hw hK hc i pins s U H E I hf st hg;subst hP hw hK;let⟨xs,hq,hx⟩:=hg;let⟨its,rv,p,hz⟩:=I.list hq;let⟨f0,f1,f2,f3,f4,f5⟩:=hf it (by simp);let hl:=⇑rv;exact wpAny_pyNext_list_end (I.ok.hd hc) st p.isList (by simp;ext) λh' eb=>{rfl,I.turned (t':=s.toks) (λb o hb e=>eb b o hb e) f0 f1 f3 f4 f5}
 self:=λ_ _ _ _ _ st h=>wpAny_pyIter_listiter st h
def DM {P:wO} {w:wQ} {K:yr} {tg:Expr} (a it:wV):Turn P w K tg (LX K a) [it] it (λi h=>h.IsTupleIter it a i) where
 mem:=by simp
 obj:=λi h st b hb=>by
  let e:b=it:=by simpa using hb
  subst e;let⟨o,e,c,d⟩:=st;exact{o,e,λv z=>by rw[d] at z;cases z}
 keep:=λi h h' st k=>st.at λo e=>k it (by simp) o e
 item:=by
  intro X hP hw hK hc i pins s U H E I hf st hg;subst hP hw hK;let⟨xs,x,hq,hx⟩:=hg;let⟨its,rv,p,hz⟩:=I.tuple hq;let⟨u,hu,ru⟩:=rv.get hx;let⟨f0,f1,f2,f3,f4,f5⟩:=hf it (by simp);refine wpAny_pyNext_tuple_item st (show s.heap.IsTuple a its.toArray from p) (x:=u) (by simpa using hu) λh' st' sb=>?_;let I1:Inv X pins U H {s with heap:=h'}:=I.turned (t':=s.toks) (λb o hb e=>(sb.2 b hb).trans e) f0 f1 f3 f4 f5;let⟨o,e,c,d⟩:=id st';exact{u,rfl,va (s:={s with heap:=h'}) e c d ∅ {x,H,I1,ru,{rfl,λys hy=>by rw[I.uz hy hq];exact hx},st',λb hb=>(hf b hb).1}}
 done:=by
  intro X hP hw hK hc i pins s U H E I hf st hg;subst hP hw hK;let⟨xs,hq,hx⟩:=hg;let⟨its,rv,p,hz⟩:=I.tuple hq;let⟨f0,f1,f2,f3,f4,f5⟩:=hf it (by simp);let hl:=⇑rv;exact wpAny_pyNext_tuple_end (I.ok.hd hc) st (show s.heap.IsTuple a its.toArray from p) (by simp;ext) λh' eb=>{rfl,I.turned (t':=s.toks) (λb o hb e=>eb b o hb e) f0 f1 f3 f4 f5}
 self:=λ_ _ _ _ _ st h=>wpAny_pyIter_tupleiter st h
def DN {P:wO} {w:wQ} {K:yr} {tg:Expr} (it:wV) (lo:Int) (n:Nat):Turn P w K tg (NM lo n) [it] it (λi h=>IsRangeIter h it (lo+(i:Nat)*1) ((n:Int)-(i:Nat)) 1) where
 mem:=by simp
 obj:=λi h st b hb=>by
  let e:b=it:=by simpa using hb
  subst e;exact{_,st,λv z=>by
   let z':Data.fields _=Data.cell v:=z;cases z'}
 keep:=λi h h' st k=>k it (by simp) _ st
 item:=by
  intro X hP hw hK hc i pins s U H E I hf st hg;subst hP hw hK;let⟨f0,f1,f2,f3,f4,f5⟩:=hf it (by simp);let W:=Walks.range (prog:=X.prog) (w:=X.w) (I.ok.hd hc) it lo 1 n;refine W.item i s _ _ hg st λv h' tk hv st' kk=>?_;let⟨t,rfl⟩:=hv;let I1:Inv X pins U H {s with heap:=h',toks:=tk}:=I.turned (λb o hb e=>kk b o (by simpa using hb) e) f0 f1 f3 f4 f5;refine{_,rfl,va (s:={s with heap:=h',toks:=tk}) (n:="range_iterator") st' rfl rfl ∅ {.int (lo+i),H,I1,{t,?_},{(rfl),rfl},st',λb hb=>(hf b hb).1}};rw[Int.mul_one]
 done:=by
  intro X hP hw hK hc i pins s U H E I hf st hg;subst hP hw hK;let⟨f0,f1,f2,f3,f4,f5⟩:=hf it (by simp);exact wpAny_pyNext_range_end (I.ok.hd hc) st (by have:n<=i:=hg;ext) λh' eb=>{rfl,I.turned (t':=s.toks) (λb o hb e=>eb b o hb e) f0 f1 f3 f4 f5}
 self:=λ_ _ _ _ _ st h=>wpAny_pyIter_rangeiter st h
end L2
namespace L2
open PySem PySem.Spec PyProof.Rows
section
variable {X:Cx} {tg:Expr}
def FO (K:yr) (tl:TE):TI:=λU H R=>tl U H λx H1=>∃a,x=.ref a/\(∃xs,aD K H1 a xs)/\R (J0 K a) H1
def Qf (K:yr) (tl:TE):TI:=λU H R=>tl U H λx H1=>∃a,x=.ref a/\(∃xs,cx K H1 a xs)/\R (LX K a) H1
def bS {l:Expr} {tl:TE} (hl:PE X l tl):PI X tg l (FO X.K tl):=by
 intro pins s U H R I h;refine bR (hl pins s U H _ I h) λv s1 zz=>?_;let⟨x,H1,I1,r1,q1⟩:=zz;let⟨a,e,⟨xs,hq⟩,q⟩:=q1;subst e;cases r1;let⟨its,rv,p,hz⟩:=I1.list hq;refine wb p.isList ?_;refine{↑s1,[↑s1],_,_,H1,rfl,I1.kept (t':=s1.toks) λb o e=>yk _ e,Gf a _,{_,yn _ rfl,rfl,rfl},λb hb=>?_,q};let e:b=↑s1:=by simpa using hb
 subst e;exact I1.tJ (zh _) (I1.aT.fresh (zh _))
def lW {l:Expr} {tl:TE} (hl:PE X l tl):PI X tg l (Qf X.K tl):=by
 intro pins s U H R I h;refine bR (hl pins s U H _ I h) λv s1 zz=>?_;let⟨x,H1,I1,r1,q1⟩:=zz;let⟨a,e,⟨xs,hq⟩,q⟩:=q1;subst e;cases r1;let⟨its,rv,p,hz⟩:=I1.tuple hq;refine wpAny_pyIter_tuple (show s1.heap.IsTuple a its.toArray from p) ?_;refine{↑s1,[↑s1],_,_,H1,rfl,I1.kept (t':=s1.toks) λb o e=>yk _ e,DM a _,{_,yn _ rfl,rfl,rfl},λb hb=>?_,q};let e:b=↑s1:=by simpa using hb
 subst e;exact I1.tJ (zh _) (I1.aT.fresh (zh _))
def Ip {pins:List (wV×Obj)} {U:St} {H:Hp} {s:wN} {R:It->Hp->Prop} {E:wM->wN->Prop} {lo hi:Int} {t u v:Tok} {tk:Nat} (I:Inv X pins U H s) (h1:-(2^62)<=lo) (h2:lo<2^62) (h3:-(2^62)<=hi) (h4:hi<2^62)
  (q:R (NM lo (hi-lo).toNat) H):wpAny (model X.prog X.w) X.A (pyIter (.ref ↑s)) (QD X pins U tg R) E {s with heap:=s.heap.push {cls:=.type "range",data:=.fields #[.int lo t,.int hi u,.int 1 v]},toks:=tk}:=by
 refine wpAny_pyIter_range (IsRange.new ..) (small_one h1 h2 h3 h4) ?_;let I1:Inv X pins U H {s with heap:=s.heap.push {cls:=.type "range",data:=.fields #[.int lo t,.int hi u,.int 1 v]},toks:=tk}:=I.kept λb o e=>yk _ e;refine{(s.heap.push {cls:=.type "range",data:=.fields #[.int lo t,.int hi u,.int 1 v]}).objs.size,[(s.heap.push {cls:=.type "range",data:=.fields #[.int lo t,.int hi u,.int 1 v]}).objs.size],_,_,H,rfl,
  I1.kept (t':=tk) λb o e=>yk _ e,DN _ lo (hi-lo).toNat,?_,λb hb=>?_,q}
 ·let e1:lo+((0:Nat):Int)*1=lo:=by simp
  let e2:(((hi-lo).toNat:Nat):Int)-((0:Nat):Int)=Builtin.Range.rangeSize lo hi 1:=by rw[rangeSize_one];split <;> ext
  show IsRangeIter _ _ (lo+((0:Nat):Int)*1) ((((hi-lo).toNat:Nat):Int)-((0:Nat):Int)) 1;rw[e1,e2];exact yn _ rfl
 ·let e:b=(s.heap.push {cls:=.type "range",data:=.fields #[.int lo t,.int hi u,.int 1 v]}).objs.size:=by simpa using hb
  subst e;exact I1.tJ (zh _) (I1.aT.fresh (zh _))
def Jk (ta:TA):TI:=λU H R=>ta U H λvs H1=>∃j:Int,vs=[.int j]/\-(2^62)<=j/\j<2^62/\R (NM 0 j.toNat) H1
def nR {a:Expr} {ta:TA} {p pos:Pos} (hg:Gl X "range") (hm:X.mg "range"= none) (ha:PA X [a] ta) (hs:starEach [a] X.env=[(false,eval a X.env)]<|>qe_):PI X tg (.Call (.Name "range" p) [a] [] pos) (Jk ta):=by
 intro pins s U H R I h;refine Call_ (j7 I hg hm boot_range (yD (bR (ha pos pins s U H _ I h) λus s1 ⟨vs,H1,I1,r1,q1⟩=>?_) hs rfl));let⟨j,e,q1,q2,q⟩:=q1;subst e;cases r1 with
 | cons r rr=>
  cases rr;let⟨t,rfl⟩:=r;exact call_range_1 (Ip I1 () () q1 q2 (by simpa using q))
def Ki (wi:TI) (g:TG) (tb:TS):TS:=λD U H=>wi U H λJ H1=>∃W:Nat->Nat->St->Hp->Prop,(∃m,W 0 m U H1)/\∀i m U H,W i m U H->
 (J.stop i H/\D.nx U H)\/(J.go i H/\∃N:St->Hp->Prop,(∀U' H',N U' H'->∃m',m'<m/\W (i+1) m' U' H')/\∀x H',J.HD i H x H'->g x U H' λU2 H2=>tb {D with nx:=N,ct:=N,bk:=D.nx} U2 H2)
def nQ (fp:List wV) (h:wW):List (wV×Obj):=fp.filterMap λb=>(h.get? b).map λo=>(b,o)
def eL (hb:b∈fp) (e:h.get? b=some o):(b,o)∈nQ fp h:=wI.mpr {b,hb,by rw[e];rfl}
def GI (hp:p∈nQ fp h):p.1∈fp/\h.get? p.1=some p.2:=by
 let⟨b,hb,e⟩:=wI.mp hp;cases q:h.get? b with
 | none=>rw[q] at e;cases e
 | some o=>
  rw[q] at e;let e':(b,o)=p:=yb e;subst e';exact{(hb),q}
def Inv.pinned (I:Inv X pins U H s) (hf:∀b∈fp,uo X pins H b) (ho:∀b∈fp,∃o,s.heap.get? b=some o/\∀v,o.data≠.cell v):Inv X (pins++nQ fp s.heap) U H s:=
 I.kE λp hp=>(zD.mp hp).elim (λz=>I.pin p (zF _ z)) λz=>by
  let⟨hb,e⟩:=GI z;let⟨f0,f1,f2,_⟩:=hf p.1 hb;let⟨o,e',d⟩:=ho p.1 hb;rw[e] at e';cases e';exact{(e),f0,f1,f2,d}
def Inv.pX (I:Inv X (pins++pl) U H s):Inv X pins U H s:=I.kE λp hp=>I.pin p (zF _ (zG _ hp))
def hJ (hp:PassesOwn (model X.prog X.w) X.A X.env X.xe) (hc:X.calm=true) (hi:PI X tg iter wi) (hg:PG X tg g) (hb:uk X body tb)
  (hs:(∀x,foldedSetIterable iter X.env x=pure x)<|>qd_):PS X (.For tg iter body [] pos) (Ki wi g tb):=by
 intro pins s U H D I h;refine wpAny_For (bR (hi pins s U H _ I h) λv s1 h1=>bR h1 λitv s2 h2=>?_) hs;let⟨it,fp,tn,J,H2,e,I2,T,st2,f2,W,⟨m0,w0⟩,turn⟩:=h2;subst e;let stat:∀{H':Hp},(∀b∈fp,H' b=none)->∀b∈fp,uo X pins H' b:=λhn b hb=>{hn b hb,(f2 b hb).2}
 refine codeAny_forLoop_any (λn s'=>∃i U' H',Inv X pins U' H' s'/\tn i s'.heap/\(∀b∈fp,H' b=none)/\W i n U' H') ?_ m0 {0,U,H2,I2,st2,λb hb=>(f2 b hb).1,w0};rintro n s3 ⟨i,U3,H3,I3,st3,fr3,w3⟩;rcases turn i n U3 H3 w3 with⟨stop,qn⟩ | ⟨go,N,hN,step⟩
 ·refine xC hp (bR (T.done X rfl rfl rfl hc i pins s3 U3 H3 X.xe I3 (stat fr3) st3 stop) λr s4 ⟨hr,I4⟩=>?_)
  subst hr;exact xU {U3,H3,I4,qn}
 ·refine xC hp (bR (T.item X rfl rfl rfl hc i pins s3 U3 H3 X.xe I3 (stat fr3) st3 go) λr s4 ⟨u,hr,h4⟩=>?_)
  subst hr;refine xC hp (bR h4 λ_ s5 zz=>?_);let⟨x,H5,I5,r5,y5,st5,fr5⟩:=zz;let I5':=I5.pinned (stat fr5) (T.obj _ _ st5);refine xC hp (bR (hg _ s5 U3 H5 x u _ I5' r5 (step x H5 y5)) λ_ s6 ⟨U6,H6,I6,q6⟩=>?_);refine xC hp (bR (hb _ s6 U6 H6 _ I6 q6) λf s7 q7=>?_);let again:∀{U7:St} {H7:Hp},Inv X (pins++nQ fp s5.heap) U7 H7 s7->N U7 H7->∃m,m<n/\∃i U' H',Inv X pins U' H' s7/\tn i s7.heap/\(∀b∈fp,H' b=none)/\W i m U' H':=λ{U7 H7} I7 n7=>by
   let⟨m',hm,w7⟩:=hN U7 H7 n7;refine{m',hm,i+1,U7,H7,I7.pX,T.keep _ _ _ st5 λb hb o e=>(I7.pin (b,o) (zF _ (zF _ (eL hb e)))).1,λb hb=>?_,w7};let⟨o,e,d⟩:=T.obj _ _ st5 b hb;exact(I7.pin (b,o) (zF _ (zF _ (eL hb e)))).2.1
  cases f with
  | next=>let⟨U7,H7,I7,n7⟩:=q7;exact again I7 n7
  | cont=>let⟨U7,H7,I7,n7⟩:=q7;exact again I7 n7
  | brk=>let⟨U7,H7,I7,q7⟩:=q7;exact{U7,H7,I7.pX,q7}
  | ret v=>let⟨x7,U7,H7,I7,r7,q7⟩:=q7;exact{x7,U7,H7,I7.pX,r7,q7}
end
def kg {K:yr} {a:wV} {xs:List V} {g:TG} {tb:TS} {D:Ends} {U:St} {H:Hp} (Pv:Nat->St->Hp->Prop) (h0:Pv 0 U H) (hl:∀i U H,i<=⇑xs->Pv i U H->aD K H a xs)
  (hs:∀i x U H,xs[i]?=some x->Pv i U H->g x U H λU2 H2=>tb {D with nx:=Pv (i+1),ct:=Pv (i+1),bk:=D.nx} U2 H2) (hd:∀U H,Pv ⇑xs U H->D.nx U H) :
  ∃W:Nat->Nat->St->Hp->Prop,(∃m,W 0 m U H)/\∀i m U H,W i m U H->
   ((J0 K a).stop i H/\D.nx U H)\/((J0 K a).go i H/\∃N:St->Hp->Prop,(∀U' H',N U' H'->∃m',m'<m/\W (i+1) m' U' H')/\∀x H',(J0 K a).HD i H x H'->g x U H' λU2 H2=>tb {D with nx:=N,ct:=N,bk:=D.nx} U2 H2):=by
 refine{λi m U H=>m=⇑xs-i/\i<=⇑xs/\Pv i U H,{⇑xs,by simp,zZ _,h0},?_};rintro i m U H ⟨rfl,hi,p⟩;let q:=hl i U H hi p
 by_cases hlt:i<⇑xs
 ·refine .inr {{xs,xs[i],q,by simp[hlt]},Pv (i+1),λU' H' p'=>{⇑xs-(i+1),(),rfl,hlt,p'},λx H' y=>?_}
  let⟨e,y⟩:=y;subst e;exact hs i x U _ (y xs q) p
 ·let e:i=⇑xs:=()
  subst e;exact .inl {{xs,q,zh _},hd U H p}
def K1 {K:yr} {a:wV} {xs:List V} {g:TG} {tb:TS} {D:Ends} {U:St} {H:Hp} (Pv:Nat->St->Hp->Prop) (h0:Pv 0 U H) (hl:∀i U H,i<=⇑xs->Pv i U H->cx K H a xs)
  (hs:∀i x U H,xs[i]?=some x->Pv i U H->g x U H λU2 H2=>tb {D with nx:=Pv (i+1),ct:=Pv (i+1),bk:=D.nx} U2 H2) (hd:∀U H,Pv ⇑xs U H->D.nx U H) :
  ∃W:Nat->Nat->St->Hp->Prop,(∃m,W 0 m U H)/\∀i m U H,W i m U H->
   ((LX K a).stop i H/\D.nx U H)\/((LX K a).go i H/\∃N:St->Hp->Prop,(∀U' H',N U' H'->∃m',m'<m/\W (i+1) m' U' H')/\∀x H',(LX K a).HD i H x H'->g x U H' λU2 H2=>tb {D with nx:=N,ct:=N,bk:=D.nx} U2 H2):=by
 refine{λi m U H=>m=⇑xs-i/\i<=⇑xs/\Pv i U H,{⇑xs,by simp,zZ _,h0},?_};rintro i m U H ⟨rfl,hi,p⟩;let q:=hl i U H hi p
 by_cases hlt:i<⇑xs
 ·refine .inr {{xs,xs[i],q,by simp[hlt]},Pv (i+1),λU' H' p'=>{⇑xs-(i+1),(),rfl,hlt,p'},λx H' y=>?_}
  let⟨e,y⟩:=y;subst e;exact hs i x U _ (y xs q) p
 ·let e:i=⇑xs:=()
  subst e;exact .inl {{xs,q,zh _},hd U H p}
end L2
namespace L2
open PySem PySem.Spec PyProof.Rows
abbrev R2:=V->V->Hp->VK->Prop
def ng (X:Cx) (f:wM->wM->Sem wM) (r:R2):Prop:=
 ∀(pins:List (wV×Obj)) (s:wN) (U:St) (H:Hp) (x y:V) (v u:wM) (Q:VK),Inv X pins U H s->RelV x v->RelV y u->r x y H Q->
  wpAny (model X.prog X.w) X.A (f v u) (EP X pins U Q) X.xe s
def Qp (X:Cx) (f:wM->Sem wM) (r:V->Hp->VK->Prop):Prop:=
 ∀(pins:List (wV×Obj)) (s:wN) (U:St) (H:Hp) (x:V) (v:wM) (Q:VK),Inv X pins U H s->RelV x v->r x H Q->
  wpAny (model X.prog X.w) X.A (f v) (EP X pins U Q) X.xe s
def cZ (X:Cx) (f:wM) (r:List V->Hp->VK->Prop):Prop:=
 ∀(pins:List (wV×Obj)) (s:wN) (U:St) (H:Hp) (xs:List V) (us:List wM) (Q:VK),Inv X pins U H s->Vals xs us->r xs H Q->
  wpAny (model X.prog X.w) X.A (call f us) (EP X pins U Q) X.xe s
def eG (r:R2) (ta tb:TE):TE:=λU H Q=>ta U H λx H1=>tb U H1 λy H2=>r x y H2 Q
def QN (r:V->Hp->VK->Prop) (ta:TE):TE:=λU H Q=>ta U H λx H1=>r x H1 Q
def rI (C:Int->Int->Prop) (g:Int->Int->V):R2:=λx y H Q=>∃i j,x=.int i/\y=.int j/\C i j/\Q (g i j) H
def Bs (g:Int->Int->V):R2:=λx y H Q=>∃i j,x=.int i/\y=.int j/\Q (g i j) H
def rU (g:Int->V):V->Hp->VK->Prop:=λx H Q=>∃i,x=.int i/\Q (g i) H
section
variable {X:Cx} {a b c:Expr} {ta tb tc:TE} {pos:Pos}
def Nu (ha:PE X a ta) (hb:PE X b tb) {pins:List (wV×Obj)} {s:wN} {U:St} {H:Hp} {R:V->V->Hp->Prop} (I:Inv X pins U H s)
  (h:ta U H λx H1=>tb U H1 λy H2=>R x y H2) {Q:wM->wN->Prop} {f:wM->wM->Sem wM}
  (hf:∀v u s2 x y H2,Inv X pins U H2 s2->RelV x v->RelV y u->R x y H2->wpAny (model X.prog X.w) X.A (f v u) Q X.xe s2) :
  wpAny (model X.prog X.w) X.A (eval a X.env) (λv s₁=>wpAny (model X.prog X.w) X.A (eval b X.env) (λu s₂=>wpAny (model X.prog X.w) X.A (f v u) Q X.xe s₂) X.xe s₁) X.xe s:=by
 refine bR (ha pins s U H _ I h) λv s1 zz=>?_;let⟨x,H1,I1,r1,q1⟩:=zz;refine bR (hb pins s1 U H1 _ I1 q1) λu s2 zz=>?_;let⟨y,H2,I2,r2,q2⟩:=zz;exact hf v u s2 x y H2 I2 r1 r2 q2
def az {op:Operator} {r:R2} (ho:ng X (binaryOp op) r) (ha:PE X a ta) (hb:PE X b tb):PE X (.BinOp a op b pos) (eG r ta tb):=by
 intro pins s U H Q I h;exact wpAny_BinOp (Nu ha hb I h λv u s2 x y H2 I2 rx ry q=>ho pins s2 U H2 x y v u Q I2 rx ry q)
def FD (ho:Qp X (unaryOp op) r) (ha:PE X a ta):PE X (.UnaryOp op a pos) (QN r ta):=by
 intro pins s U H Q I h;exact UnaryOp_ (bR (ha pins s U H _ I h) λv s1 ⟨x,H1,I1,r1,q1⟩=>ho pins s1 U H1 x v Q I1 r1 q1)
def NI {f:wM->wM->Sem wM} {C:Int->Int->Prop} {g:Int->Int->Int}
  (rule:∀(i j:Int) (t u:Tok) (s:wN) (Q:wM->wN->Prop) (E:wM->wN->Prop),C i j->Q (.int (g i j) s.toks) {s with toks:=s.toks+1}->wpAny (model X.prog X.w) X.A (f (.int i t) (.int j u)) Q E s) :
  ng X f (rI C λi j=>.int (g i j)):=by
 intro pins s U H x y v u Q I rx ry h;let⟨i,j,rfl,rfl,hc,q⟩:=h;let⟨t,rfl⟩:=rx;let⟨t',rfl⟩:=ry;exact rule i j t t' s _ _ hc {.int (g i j),H,I.tok _,{_,rfl},q}
def Ox {f:wM->wM->Sem wM} {g:Int->Int->Int}
  (rule:∀(i j:Int) (t u:Tok) (s:wN) (Q:wM->wN->Prop) (E:wM->wN->Prop),Q (.int (g i j) s.toks) {s with toks:=s.toks+1}->wpAny (model X.prog X.w) X.A (f (.int i t) (.int j u)) Q E s) :
  ng X f (Bs λi j=>.int (g i j)):=by
 intro pins s U H x y v u Q I rx ry h;let⟨i,j,rfl,rfl,q⟩:=h;let⟨t,rfl⟩:=rx;let⟨t',rfl⟩:=ry;exact rule i j t t' s _ _ {.int (g i j),H,I.tok _,{_,rfl},q}
def KI {f:wM->wM->Sem wM} {g:Int->Int->Bool}
  (rule:∀(i j:Int) (t u:Tok) (s:wN) (Q:wM->wN->Prop) (E:wM->wN->Prop),Q (.bool (g i j)) s->wpAny (model X.prog X.w) X.A (f (.int i t) (.int j u)) Q E s) :
  ng X f (Bs λi j=>.bl (g i j)):=by
 intro pins s U H x y v u Q I rx ry h;let⟨i,j,rfl,rfl,q⟩:=h;let⟨t,rfl⟩:=rx;let⟨t',rfl⟩:=ry;exact rule i j t t' s _ _ {.bl (g i j),H,I,rfl,q}
def Ls (i j:Int):Prop:=0<j/\j<1073741824
def Lr (i j:Int):Prop:=(-(2^64)<i/\i<2^64)\/(-(2^64)<j/\j<2^64)
def Lr.ok (h:Lr i j):IntMulOk i j:=by
 rcases h with⟨h1,h2⟩ | ⟨h1,h2⟩
 ·exact .of_left (intBits_le_64 h1 h2)
 ·exact .of_right (intBits_le_64 h1 h2)
def DL (k:Nat):(0:Int)<=2^k:=by
 rw[two_pow_cast];exact Int.natCast_nonneg _
def cL:ng X (binaryOp .Add) (Bs λi j=>.int (i+j)):=Ox λ_ _ _ _ _ _ _ q=>add_int q
def Eg:ng X (binaryOp .Sub) (Bs λi j=>.int (i-j)):=Ox λ_ _ _ _ _ _ _ q=>sub_int q
def fk:ng X (binaryOp .Mult) (rI Lr λi j=>.int (i*j)):=NI λ_ _ _ _ _ _ _ hc q=>mul_int q hc.ok
def d5:ng X (binaryOp .FloorDiv) (rI Ls λi j=>.int (i/j)):=NI λi j _ _ _ _ _ hc q=>by
 let h1:(0:Int)<j:=hc.1;let h2:j<1073741824:=hc.2;exact floordiv_int () (by rw[wJ i ()];exact q) (.inl (PyProof.noPylong_small ()))
def b8:ng X (binaryOp .Mod) (rI (λ_ j=>0<j) λi j=>.int (i%j)):=NI λi j _ _ _ _ _ hc q=>by
 let h1:(0:Int)<j:=hc;exact mod_int' () (by rw[Int.fmod_eq_emod_of_nonneg i ()];exact q)
def MN:ng X (binaryOp .RShift) (rI (λ_ j=>0<=j) λi j=>.int (i/2^j.toNat)):=NI λi j _ _ _ _ _ hc q=>
 rshift_int hc (by rw[wJ i (DL _)];exact q)
def QL {f:wM->Sem wM} {g:Int->Int}
  (rule:∀(i:Int) (t:Tok) (s:wN) (Q:wM->wN->Prop) (E:wM->wN->Prop),Q (.int (g i) s.toks) {s with toks:=s.toks+1}->wpAny (model X.prog X.w) X.A (f (.int i t)) Q E s) :
  Qp X f (rU λi=>.int (g i)):=by
 intro pins s U H x v Q I rx h;let⟨i,rfl,q⟩:=h;let⟨t,rfl⟩:=rx;exact rule i t s _ _ {.int (g i),H,I.tok _,{_,rfl},q}
def vA:Qp X (unaryOp .USub) (rU λi=>.int (-i)):=QL λ_ _ _ _ _ q=>neg_int q
end
def Kn:V->V->Bool
 | .aU,.aU=>true | .aU,.int _=>true | .int _,.aU=>true | .aU,.bl _=>true | .bl _,.aU=>true | .aU,.str _=>true | .str _,.aU=>true
 | .int _,.int _=>true | .bl _,.bl _=>true | .str _,.str _=>true | .F1 _,.F1 _=>true
 | .int _,.str _=>true | .str _,.int _=>true | .bl _,.str _=>true | .str _,.bl _=>true
 | _,_=>false
def Pd:R2:=λx y H Q=>Kn x y=true/\Q (.bl (decide (x=y))) H
def P5:R2:=λx y H Q=>Kn x y=true/\Q (.bl (!decide (x=y))) H
def AN:decide (V.int i=V.int j)=(i == j):=by
 rw[xr];simp
def JF:decide (V.bl i=V.bl j)=(i == j):=by
 rw[xr];simp
def AL:decide (V.str i=V.str j)=(i == j):=by
 rw[xr];simp
def FT:decide (V.F1 i=V.F1 j)=(i.toList == j.toList):=by
 rw[xr];cases i;cases j;simp
section
variable {X:Cx} {a b c:Expr} {ta tb tc:TE} {pos:Pos}
def bj (I:Inv X pins U H s) (q:Q (.bl k) H) (e:k=k'):EP X pins U Q (.bool k') s:=by
 subst e;exact{.bl k,H,I,rfl,q}
def bE:ng X (compareOp .Eq) Pd:=by
 intro pins s U H x y v u Q I rx ry h;let⟨hs,q⟩:=h;cases x with
 | aU=>
  cases rx;cases y with
  | aU=>cases ry;exact PySem.EqNone.eq_none_none (bj I q (by simp))
  | bl j=>cases ry;exact PySem.EqNone.eq_none_bool (bj I q (by simp))
  | int j=>let⟨t',rfl⟩:=ry;exact PySem.EqNone.eq_none_int (bj I q (by simp))
  | str j=>let⟨t',rfl⟩:=ry;exact PySem.EqNone.eq_none_str (bj I q (by simp))
  | _=>exact absurd (show false=true from hs) zI
 | bl i=>
  cases rx;cases y with
  | aU=>cases ry;exact PySem.EqNone.eq_bool_none (bj I q (by simp))
  | bl j=>cases ry;exact eq_bool (bj I q JF)
  | str j=>let⟨t',rfl⟩:=ry;exact PySem.EqMixed.eq_bool_str (bj I q (by simp))
  | _=>exact absurd (show false=true from hs) zI
 | int i=>
  let⟨t,rfl⟩:=rx;cases y with
  | aU=>cases ry;exact PySem.EqNone.eq_int_none (bj I q (by simp))
  | int j=>let⟨t',rfl⟩:=ry;exact eq_int (bj I q AN)
  | str j=>let⟨t',rfl⟩:=ry;exact PySem.EqMixed.eq_int_str (bj I q (by simp))
  | _=>exact absurd (show false=true from hs) zI
 | str i=>
  let⟨t,rfl⟩:=rx;cases y with
  | aU=>cases ry;exact PySem.EqNone.eq_str_none (bj I q (by simp))
  | bl j=>cases ry;exact PySem.EqMixed.eq_str_bool (bj I q (by simp))
  | int j=>let⟨t',rfl⟩:=ry;exact PySem.EqMixed.eq_str_int (bj I q (by simp))
  | str j=>let⟨t',rfl⟩:=ry;exact eq_str (bj I q AL)
  | _=>exact absurd (show false=true from hs) zI
 | F1 i=>
  let⟨t,rfl⟩:=rx;cases y with
  | F1 j=>let⟨t',rfl⟩:=ry;exact PySem.W.eq_bytes (bj I q FT)
  | _=>exact absurd (show false=true from hs) zI
 | _=>cases y <;> exact absurd (show false=true from hs) zI
def fB:ng X (compareOp .NotEq) P5:=by
 intro pins s U H x y v u Q I rx ry h;let⟨hs,q⟩:=h;cases x with
 | aU=>
  cases rx;cases y with
  | aU=>cases ry;exact PySem.EqNone.ne_none_none (bj I q (by simp))
  | bl j=>cases ry;exact PySem.EqNone.ne_none_bool (bj I q (by simp))
  | int j=>let⟨t',rfl⟩:=ry;exact PySem.EqNone.ne_none_int (bj I q (by simp))
  | str j=>let⟨t',rfl⟩:=ry;exact PySem.EqNone.ne_none_str (bj I q (by simp))
  | _=>exact absurd (show false=true from hs) zI
 | bl i=>
  cases rx;cases y with
  | aU=>cases ry;exact PySem.EqNone.ne_bool_none (bj I q (by simp))
  | bl j=>cases ry;exact ne_bool (bj I q (yQ not JF))
  | str j=>let⟨t',rfl⟩:=ry;exact PySem.EqMixed.ne_bool_str (bj I q (by simp))
  | _=>exact absurd (show false=true from hs) zI
 | int i=>
  let⟨t,rfl⟩:=rx;cases y with
  | aU=>cases ry;exact PySem.EqNone.ne_int_none (bj I q (by simp))
  | int j=>let⟨t',rfl⟩:=ry;exact ne_int (bj I q (yQ not AN))
  | str j=>let⟨t',rfl⟩:=ry;exact PySem.EqMixed.ne_int_str (bj I q (by simp))
  | _=>exact absurd (show false=true from hs) zI
 | str i=>
  let⟨t,rfl⟩:=rx;cases y with
  | aU=>cases ry;exact PySem.EqNone.ne_str_none (bj I q (by simp))
  | bl j=>cases ry;exact PySem.EqMixed.ne_str_bool (bj I q (by simp))
  | int j=>let⟨t',rfl⟩:=ry;exact PySem.EqMixed.ne_str_int (bj I q (by simp))
  | str j=>let⟨t',rfl⟩:=ry;exact ne_str (bj I q (yQ not AL))
  | _=>exact absurd (show false=true from hs) zI
 | F1 i=>
  let⟨t,rfl⟩:=rx;cases y with
  | F1 j=>let⟨t',rfl⟩:=ry;exact PySem.W.ne_bytes (bj I q (yQ not FT))
  | _=>exact absurd (show false=true from hs) zI
 | _=>cases y <;> exact absurd (show false=true from hs) zI
def gF:ng X (compareOp .Lt) (Bs λi j=>.bl (decide (i<j))):=KI λ_ _ _ _ _ _ _ q=>lt_int q
def mM:ng X (compareOp .LtE) (Bs λi j=>.bl (decide (i<=j))):=KI λ_ _ _ _ _ _ _ q=>le_int q
def gf:ng X (compareOp .Gt) (Bs λi j=>.bl (decide (j<i))):=KI λ_ _ _ _ _ _ _ q=>gt_int q
def Cc:ng X (compareOp .GtE) (Bs λi j=>.bl (decide (j<=i))):=KI λ_ _ _ _ _ _ _ q=>ge_int q
def uM:ng X (compareOp .In) (λx y H Q=>∃i j,x=.str i/\y=.str j/\Q (.bl (!(Builtin.Str.occurrences j i 0 ⇑j 1).isEmpty)) H):=by
 intro pins s U H x y v u Q I rx ry h;let⟨i,j,rfl,rfl,q⟩:=h;let⟨t,rfl⟩:=rx;let⟨t',rfl⟩:=ry;exact in_str (bj I q rfl)
def dj (b:Expr) (h:op≠.In<|>qb_) (h2:op≠.NotIn<|>qb_):behindInMarks op b=false:=by
 let e1:(op == CmpOp.In)=false:=by cases op <;> first | rfl | exact absurd rfl h
 let e2:(op == CmpOp.NotIn)=false:=by cases op <;> first | rfl | exact absurd rfl h2
 cases b <;> simp[behindInMarks,e1,e2]
def bT (ho:ng X (compareOp op) r) (ha:PE X a ta) (hb:PE X b tb) (hm:behindInMarks op b=false):PE X (.Compare a [op] [b] pos) (eG r ta tb):=by
 intro pins s U H Q I h;exact wpAny_Compare1 (Nu ha hb I h λv u s2 x y H2 I2 rx ry q=>ho pins s2 U H2 x y v u Q I2 rx ry q) hm
def oz (t:TE):TT:=λU H Q=>t U H λx H'=>∃k,x=.bl k/\Q k H'
def kD (ho:ng X (compareOp op) r) (ha:PE X a ta) (hb:PE X b tb) (hm:behindInMarks op b=false):PT X (.Compare a [op] [b] pos) (oz (eG r ta tb)):=by
 intro pins s U H Q I h;refine wpAny_isTrue_Compare1 (bR (ha pins s U H _ I h) λv s1 ⟨x,H1,I1,r1,q1⟩=>bR (hb pins s1 U H1 _ I1 q1) λu s2 ⟨y,H2,I2,r2,q2⟩=>
  bR (ho pins s2 U H2 x y v u _ I2 r1 r2 q2) λc s3 ⟨z,H3,I3,r3,k,e,q3⟩=>?_) hm
 subst e;cases r3;exact yW {(H3),I3,q3}
def nY:(sizeLine:Nat)<2^63:=by rw[yt];decide
def bP:ng X (binaryOp .Add) (λx y H Q=>∃i j,x=.str i/\y=.str j/\⇑i+⇑j<=sizeLine/\Q (.str (i++j)) H):=by
 intro pins s U H x y v u Q I rx ry h;let⟨i,j,rfl,rfl,hz,q⟩:=h;let⟨t,rfl⟩:=rx;let⟨t',rfl⟩:=ry;exact add_str (λt' tk=>{.str (i++j),H,I.tok _,{_,rfl},q}) hz
def vals1 (r:Vals [x] us):∃u,us=[u]/\RelV x u:=by
 cases r with
 | cons r1 r2=>cases r2;exact{_,rfl,r1}
def vals2 (r:Vals [x,y] us):∃u w',us=[u,w']/\RelV x u/\RelV y w':=by
 cases r with
 | cons r1 r2=>
  cases r2 with
  | cons r3 r4=>cases r4;exact{_,_,rfl,r1,r3}
def De:cZ X (.builtin "abs") (λxs H Q=>∃i,xs=[.int i]/\Q (.int (if i<0 then -i else i)) H):=by
 intro pins s U H xs us Q I r h;let⟨i,rfl,q⟩:=h;let⟨u,rfl,t,rfl⟩:=vals1 r;exact call_abs_int λu tk=>{.int (if i<0 then -i else i),H,I.tok _,{_,rfl},q}
def G9 (hc:X.calm=true):cZ X (.builtin "min") (λxs H Q=>∃i j,xs=[.int i,.int j]/\Q (.int (if j<i then j else i)) H):=by
 intro pins s U H xs us Q I r h;let⟨i,j,rfl,q⟩:=h;let⟨u,w',rfl,⟨t,rfl⟩,⟨t',rfl⟩⟩:=vals2 r;refine min_two_ints (I.ok.hd hc) λh' tk k=>{_,H,I.kept k,?_,q}
 by_cases hj:j<i
 ·rw[yF hj,yF hj];exact{_,rfl}
 ·rw[yE hj,yE hj];exact{_,rfl}
def Hb:cZ X (.type "int") (λxs H Q=>(∃i,xs=[.int i]/\Q (.int i) H)\/∃k,xs=[.bl k]/\Q (.int (if k then 1 else 0)) H):=by
 intro pins s U H xs us Q I r h;rcases h with⟨i,rfl,q⟩ | ⟨k,rfl,q⟩
 ·let⟨u,rfl,t,rfl⟩:=vals1 r
  exact call_int_int {.int i,H,I,{_,rfl},q}
 ·let⟨u,rfl,r1⟩:=vals1 r
  cases r1;exact call_int_bool {.int (if k then 1 else 0),H,I.tok _,{_,rfl},q}
def c9:cZ X (.type "str") (λxs H Q=>∃i,xs=[.int i]/\i.natAbs.log2<1920/\Q (.str (toString i)) H):=by
 intro pins s U H xs us Q I r h;let⟨i,rfl,hz,q⟩:=h;let⟨u,rfl,t,rfl⟩:=vals1 r;exact PySem.P.str_of_int hz {.str _,H,I.tok _,{_,rfl},q}
end
end L2
namespace L2
open PySem PySem.Spec PyProof.Rows
structure Hl (h:wW) (x dx C:wV) (mA:Str->Option wM):Prop where
 obj:h.get? x=some (PySem.W.instObj C dx)
 ns:h.Ns1 dx mA
 ne:dx≠x
def nX {h:wW} {dx:wV} {mA:Str->Option wM} (n:h.Ns1 dx mA):∃od,h.get? dx=some od/\∀name,PySem.W.lookIn name od=some (mA name):=by
 let⟨o,es,ep,ho,hd,hk,_,hm⟩:=n;refine{o,ho,λname=>?_};let e:=hm name;unfold nsFind findBy at e;rw[<-Array.find?_toList] at e;unfold PySem.W.lookIn;rw[hd];dsimp only;split
 ·rename_i y q
  rw[q] at e;exact yQ some e
 ·rename_i q
  rw[q] at e;let a:es.toList.any (·.refKey)=false:=by
   rw[List.any_eq_false];intro y hy;let⟨z,t,hkey⟩:=hk y (Array.mem_toList_iff.mp hy);simp[DictEntry.refKey,hkey]
  let a':¬es.toList.any (·.refKey)=true:=by rw[a];exact zI
  rw[yE a'];exact yQ some e
def Hl.look (I:Hl h x dx C mA):∃od,PySem.W.InstAt h x (PySem.W.instObj C dx) C (some od)/\∀name,PySem.W.lookIn name od=some (mA name):=
 let ⟨od,ho,hl⟩:=nX I.ns
 {od,{(I.obj),rfl,rfl,ho},hl}
section
variable {prog:wO} {w:wQ} {A:wR} {E:wM->wN->Prop} {s:wN} {K:yr} {x dx C f:wV} {mA:Str->Option wM} {name:Str} {v:wM}
def get_map (X:K.In s.heap) (I:Hl s.heap x dx C mA) (hg:PySem.W.plainGet K C name=true) (hh:PySem.W.hasDictIn K C=true)
  (ha:PySem.W.findIn K (.ref C) name=some none) (hv:mA name=some v) (hv':PySem.W.handedIn v=true) (h:Q v {s with toks:=s.toks+1}) :
  wpAny (model prog w) A (getAttr (.ref x) name expr) Q E s:=by
 let⟨od,J,hl⟩:=I.look;exact PySem.W.get_value X J (PySem.W.plainGet_of hg).1 (PySem.W.findObj_own hh ha rfl (by rw[hl,hv])) hv' h
def Km (X:K.In s.heap) (I:Hl s.heap x dx C mA)
  (hs:PySem.W.findIn K (.ref C) "__setattr__"= some (some (.builtin "object.__setattr__"))) (hp:PySem.W.plainOver K C=true) (ht:PySem.W.takerIn K C name=some none) (hh:PySem.W.hasDictIn K C=true)
  (hw:PySem.Within mA ns) (hsz:⇑ns<=sizeLine)
  (h:∀h',Hl h' x dx C (λy=>if y=name then some v else mA y)->Heap.SameBut dx s.heap h'->Q .unit {s with heap:=h',toks:=s.toks+2}) :
  wpAny (model prog w) A (setAttr (.ref x) name v) Q E s:=by
 let⟨od,J,hl⟩:=I.look;refine PySem.W.set_plain X J hs (PySem.W.osa_open (s:={s with toks:=s.toks+1}) (r:=none) X J hp ht λb=>?_);let⟨cd,hc,hd'⟩:=PySem.W.any_some hh;let hx:s.heap.get? x=some ⟨.ref C,some dx,.plain,#[]⟩:=I.obj;refine yj (ym (yj (yj (wpAny_loadPart hx (yj (PySem.W.Looks.here (s:={s with toks:=s.toks+1}) (PySem.W.looks_clsIn X hc) ?_))))));rw[hd'];refine ym (a:=some dx) (yj (ym (yj ?_)));refine wpAny_nsSet1 (s:={s with toks:=s.toks+1}) I.ns λh' hn2 hs2=>?_;let⟨oD,esD,epD,hoD,hdD,hcD⟩:=hn2.count (PySem.Within.cons name v hw);refine yj (wpAny_lookBehind hoD (by rw[hdD];exact pastItsLine_dict (zJ hcD (by rw[zo];ext))) ?_);exact ym (h _ {(hs2.2 _ (Ne.symm I.ne)).trans I.obj,hn2,I.ne} hs2)
def IX (X:K.In s.heap) (hm:PySem.W.makesIn K C=true)
  (hi:PySem.W.findIn K (.ref C) "__init__"= some (some (.ref f))) (hf:PySem.W.typeIn K (.ref f)=some (.type "function"))
  (h:codeAny (model prog w) (A.under (.builtin "type.__call__" {.ref C::vs,kw})) (.call (.ref f) {.ref (↑s+1)::vs,kw}) (PySem.W.InitBack (↑s+1) R)
   {s with heap:=(s.heap.push PySem.W.emptyDict).push (PySem.W.instObj C ↑s)}) :
  codeAny (model prog w) A (.call (.ref C) {(vs),kw}) R s:=by
 let⟨hh,g,d,t,os⟩:=s;exact PySem.W.make_core (PySem.W.makes_of X hm) (PySem.W.looks_findIn X hi) (λself=>PySem.W.bind_fn X self hf) (.inl rfl) h
end
def aG (f:Str) (v:V):List (Str×V)->List (Str×V)
 | []=>[(f,v)]
 | (g,x)::r=>if g=f then(g,v)::r else(g,x)::aG f v r
theorem j6 (f g:Str) (v:V):∀fs:List (Str×V),(aG f v fs).lookup g=if g=f then some v else fs.lookup g
 | []=>by
  show List.lookup g [(f,v)]=_
  by_cases h:g=f
  ·let hb:(g == f)=true:=wD.mpr h
   simp only[List.lookup,hb,yF h]
  ·let hb:(g == f)=false:=xl.mpr h
   simp only[List.lookup,hb,yE h]
 | (k,x)::r=>by
  let ih:=j6 f g v r;rw[show aG f v ((k,x)::r)=(if k=f then(k,v)::r else(k,x)::aG f v r) from rfl]
  by_cases hk:k=f
  ·rw[yF hk]
   by_cases h:g=k
   ·let hb:(g == k)=true:=wD.mpr h
    simp only[List.lookup,hb,yF (h.trans hk)]
   ·let hb:(g == k)=false:=xl.mpr h
    simp only[List.lookup,hb,yE (λe:g=f=>h (e.trans hk.symm))]
  ·rw[yE hk]
   by_cases h:g=k
   ·let hb:(g == k)=true:=wD.mpr h
    simp only[List.lookup,hb,yE (λe:g=f=>hk (h.symm.trans e))]
   ·let hb:(g == k)=false:=xl.mpr h
    simp only[List.lookup,hb];exact ih
theorem nZ (f:Str) (v:V):∀fs:List (Str×V),f∈(aG f v fs).map (·.1)/\∀g,g∈fs.map (·.1)->g∈(aG f v fs).map (·.1)
 | []=>{by simp[aG],λg h=>by simp at h}
 | (k,x)::r=>by
  let⟨i1,i2⟩:=nZ f v r;rw[show aG f v ((k,x)::r)=(if k=f then(k,v)::r else(k,x)::aG f v r) from rfl]
  by_cases hk:k=f
  ·rw[yF hk]
   subst hk;exact{by simp,λg h=>by simpa using h}
  ·rw[yE hk]
   refine{?_,λg h=>?_}
   ·rw[zf]
    exact zj _ i1
   ·rw[zf] at h ⊢
    rcases zA.mp h with e | e
    ·exact zA.mpr (.inl e)
    ·exact zj _ (i2 g e)
theorem oQ (f:Str) (v:V):∀fs:List (Str×V),⇑(aG f v fs)<=⇑fs+1
 | []=>by simp[aG]
 | (k,x)::r=>by
  let ih:=oQ f v r;rw[show aG f v ((k,x)::r)=(if k=f then(k,v)::r else(k,x)::aG f v r) from rfl]
  by_cases hk:k=f
  ·rw[yF hk,zo,zo];ext
  ·rw[yE hk,zo,zo];ext
def dU.some_of (r:dU (some v) o):∃u,o=some u/\RelV v u:=by
 cases o with
 | none=>exact(show False from r).elim
 | some u=>exact{(u),rfl,r}
def dU.none_of {o:Option wM} (r:dU none o):o=none:=by
 cases o with
 | none=>rfl
 | some u=>exact(show False from r).elim
def uZ (r:RelV v u):PySem.W.handedIn u=true:=by
 cases v with
 | aU=>cases(show u=Value.none from r);rfl
 | bl b=>cases(show u=Value.bool b from r);rfl
 | int i=>let⟨t,e⟩:=(show∃t,u=Value.int i t from r);cases e;rfl
 | str x=>let⟨t,e⟩:=(show∃t,u=Value.str x t from r);cases e;rfl
 | F1 b=>let⟨t,e⟩:=(show∃t,u=Value.bytes b t from r);cases e;rfl
 | K2 b=>let⟨t,e⟩:=(show∃t,u=Value.float b t from r);cases e;rfl
 | ref a=>cases(show u=Value.ref a from r);rfl
 | ty n=>cases(show u=Value.type n from r);rfl
section
variable {P:wO} {w:wQ} {H H':Hp} {h h':wW} {a C dx:wV} {fs fs':List (Str×V)}
def AD (aT:kQ P w H h) (e:H a=some (.ins C dx fs)):∃mA,Hl h a dx C mA/\(∀f,dU (fs.lookup f) (mA f))/\PySem.Within mA (fs.map (·.1))/\⇑fs<=1000/\H dx=some (.own a):=by
 let⟨d,z,ne,ob,mA,n,r,q⟩:=(show aW P w H h a (.ins C dx fs) from aT a _ e)
 exact{mA,{(ob),n,ne},r,q,z,d}
end
structure Lq (K:yr) (C:wV):Prop where
 pg:PySem.W.plainGet K C Str.empty=true
 hd:PySem.W.hasDictIn K C=true
 po:PySem.W.plainOver K C=true
 sa:PySem.W.findIn K (.ref C) "__setattr__"= some (some (.builtin "object.__setattr__"))
def Lq.get {K:yr} {C:wV} (c:Lq K C) (f:Str):PySem.W.plainGet K C f=true:=c.pg
def b5 (K:yr) (C:wV) (f:Str):Prop:=PySem.W.findIn K (.ref C) f=some none
def b5.N0 {K:yr} {C:wV} {f:Str} (n:b5 K C f):PySem.W.takerIn K C f=some none:=by
 unfold PySem.W.takerIn;rw[show PySem.W.findIn K (.ref C) f=some none from n];rfl
section
variable {X:Cx} {pins:List (wV×Obj)} {U:St} {H:Hp} {s:wN} {a C dx:wV} {fs:List (Str×V)} {f:Str} {v:V} {A:wR} {E:wM->wN->Prop}
def Ew (I:Inv X pins U H s) (e:H a=some (.ins C dx fs)) (c:Lq X.K C) (n:b5 X.K C f) (l:fs.lookup f=some v)
  (h:∀u s',Inv X pins U H s'->RelV v u->Q u s'):wpAny (model X.prog X.w) A (getAttr (.ref a) f b) Q E s:=by
 let⟨mA,O,r,_,_,_⟩:=AD I.aT e;let⟨u,hu,ru⟩:=dU.some_of (v:=v) (o:=mA f) (by rw[<-l];exact r f);exact get_map I.ie O (c.get f) c.hd n hu (uZ ru) (h u _ (I.tok _) ru)
def DU (I:Inv X pins U H s) (e:H a=some (.ins C dx fs)) (c:Lq X.K C) (n:b5 X.K C f) (hl:⇑fs<1000) (ry:RelV y u)
  (h:∀s',Inv X pins U (upd H a (.ins C dx (aG f y fs))) s'->Q .unit s'):wpAny (model X.prog X.w) A (setAttr (.ref a) f u) Q E s:=by
 let⟨mA,O,r,wi,_,ho⟩:=AD I.aT e;let hz:⇑(fs.map (·.1))<=sizeLine:=by rw[za,yt];ext
 refine Km I.ie O c.sa c.po n.N0 c.hd wi hz λh' O' sb=>h _ ?_;let hd:∃o,h'.get? dx=some o:=let ⟨o,_,_,e',_⟩:=O'.ns;{(o),e'};refine I.write (x:=a) (e:=dx) (by rw[e];exact True.intro) (.inr ho) (λb q hb z=>(sb.2 b hb).trans z) hd ?_;refine{by rw[ao O.ne];exact ho,?_,O.ne,O'.obj,_,O'.ns,λg=>?_,λg hg=>?_}
 ·have:=oQ f y fs;ext
 ·show dU ((aG f y fs).lookup g) (if g=f then some u else mA g)
  rw[j6]
  by_cases q:g=f
  ·rw[yF q,yF q];exact ry
  ·rw[yE q,yE q];exact r g
 ·by_cases q:g=f
  ·rw[q];exact(nZ f y fs).1
  ·refine(nZ f y fs).2 g (wi g λz=>hg ?_)
   show(if g=f then some u else mA g)=none;rw[yE q];exact z
def Inv.made (I:Inv X pins U H s):Inv X pins U (upd (upd H ↑s (.own (↑s+1))) (↑s+1) (.ins C ↑s []))
  {s with heap:=(s.heap.push PySem.W.emptyDict).push (PySem.W.instObj C ↑s)}:=by
 let e1:(s.heap.push PySem.W.emptyDict).get? ↑s=some PySem.W.emptyDict:=yn s.heap rfl;let e2:((s.heap.push PySem.W.emptyDict).push (PySem.W.instObj C ↑s)).get? (↑s+1)=some (PySem.W.instObj C ↑s):=by
  have:=yn (s.heap.push PySem.W.emptyDict) (o:=PySem.W.instObj C ↑s) rfl
  rwa [yZ] at this
 let e3:(s.heap.push PySem.W.emptyDict).Ns ↑s (λ_=>none):={PySem.W.emptyDict,#[],_,e1,rfl,(λe he=>absurd he (by simp)),λ_=>rfl}
 let I1:=I.laid (a:=↑s) (o:=.own (↑s+1)) (h':=s.heap.push PySem.W.emptyDict) (t':=s.toks) (λb u q=>yk _ q) (zh _) {_,e1};refine I1.laid (a:=↑s+1) (o:=.ins C ↑s []) (t':=s.toks) (λb u q=>yk _ q) (Nat.le_of_eq (yZ _ _)) ?_;let ne:↑s≠↑s+1:=ya (xw _);refine{by rw[ao ne,aA],zZ _,ne,e2,λ_=>none,(Heap.Ns1.of_empty e3).at λo q=>yk _ q,λ_=>True.intro,λy hy=>absurd rfl hy}
def F2 (hb:attributeBase e f env (eval e env)=eval e env)
  (h:wpAny (model prog w) A (eval e env) (λo s₁=>wpAny (model prog w) A (getAttr o f true) Q E s₁) E s):wpAny (model prog w) A (eval (.Attribute e f pos) env) Q E s:=
 Attribute_any_ h (by rw[arm_eval_Attribute,hb])
end
def Gn (K:yr) (ta:TE) (f:Str):TE:=λU H Q=>ta U H λx H1=>∃a C dx fs v,x=.ref a/\H1 a=some (.ins C dx fs)/\Lq K C/\b5 K C f/\fs.lookup f=some v/\Q v H1
def P2 (K:yr) (ta tv:TE) (f:Str):TS:=λD U H=>tv U H λy H1=>ta U H1 λx H2=>∃a C dx fs,x=.ref a/\H2 a=some (.ins C dx fs)/\Lq K C/\b5 K C f/\⇑fs<1000/\
 D.nx U (upd H2 a (.ins C dx (aG f y fs)))
section
variable {X:Cx} {o e value:Expr} {f:Str} {pos pos' tpos:Pos} {ta tv:TE}
def aR (he:PE X e ta) (hb:attributeBase e f X.env (eval e X.env)=eval e X.env):PE X (.Attribute e f pos) (Gn X.K ta f):=by
 intro pins s U H Q I h;refine F2 hb (bR (he pins s U H _ I h) λu s1 zz=>?_);let⟨x,H1,I1,rx,a,C,dx,fs,v,ex,ea,c,n,l,q⟩:=zz;subst ex;obtain rfl:u=Value.ref a:=rx;exact Ew I1 ea c n l λu' s2 I2 ru=>{(v),H1,I2,ru,q}
def gc (ha:PE X o ta) (hv:PE X value tv) (hs:swapsWith value (some (.Attribute o f pos')) pos.line X.env=pure false):PS X (.Assign [.Attribute o f pos'] value pos) (P2 X.K ta tv f):=by
 intro pins s U H D I h;refine plainObj_wpAny_Assign_Attribute (bR (hv pins s U H _ I h) λu s1 ⟨y,H1,I1,ry,q⟩=>bR (ha pins s1 U H1 _ I1 q) λov s2 ⟨x,H2,I2,rx,a,C,dx,fs,ex,ea,c,n,l,q2⟩=>?_) hs;subst ex;obtain rfl:ov=Value.ref a:=rx;exact DU I2 ea c n l ry λs3 I3=>{U,_,I3,q2}
end
section
variable {X:Cx} {pins:List (wV×Obj)} {U:St} {H:Hp} {s:wN} {A:wR} {E:wM->wN->Prop} {Q:wM->wN->Prop} {c:wM} {b:Bool}
inductive ou (K:yr) (H:Hp):V->wM->Prop where
 | aU:ou K H .aU (.type "NoneType")
 | bl (x:Bool):ou K H (.bl x) (.type "bool")
 | int (i:Int):ou K H (.int i) (.type "int")
 | str (x:Str):ou K H (.str x) (.type "str")
 | K2 (x:UInt64):ou K H (.K2 x) (.type "float")
 | lst {a:wV} {xs:List V} (e:H a=some (.lst xs)):ou K H (.ref a) (.type "list")
 | jF {a:wV} {o:Obj} {xs:List V} (e:H a=some (.jF o (.lst xs))):ou K H (.ref a) (.type "list")
 | tup {a:wV} {xs:List V} (e:H a=some (.tup xs)):ou K H (.ref a) (.type "tuple")
 | dK {a:wV} {kvs:List (Key×V)} (e:H a=some (.dK kvs)):ou K H (.ref a) (.type "dict")
 | dT {a:wV} {kvs:List (List Key×V)} (e:H a=some (.dT kvs)):ou K H (.ref a) (.type "dict")
 | ins {a C dx:wV} {fs:List (Str×V)} (e:H a=some (.ins C dx fs)) (cl:Lq K C) (ha:PySem.W.findIn K (.ref C) "__class__"= some (some (.builtin "object.__class__")))
   (hn:PySem.W.specialIn K (.builtin "object.__class__") "__get__"= some (some (.builtin "getset_descriptor.__get__"))) (htk:PySem.W.takesIn K (.builtin "object.__class__")=some true)
   (hm:PySem.W.mroIn K C (.type "object")=some true):ou K H (.ref a) (.ref C)
def GO (I:Inv X pins U H s) (rx:RelV x u) (ty:ou X.K H x t) (e:PySem.W.kitOne X.K t c=some b) (h:∀tk,Q (.bool b) {s with toks:=tk}) :
  wpAny (model X.prog X.w) A (call (.builtin "isinstance") [u,c]) Q E s:=by
 cases ty with
 | aU=>cases(show u=Value.none from rx);exact y0 PySem.W.kitx_none I.ie True.intro e (λz=>nomatch z) h
 | bl y=>cases(show u=Value.bool y from rx);exact y0 PySem.W.kitx_bool I.ie True.intro e (λz=>nomatch z) h
 | int i=>let⟨t,q⟩:=(show∃t,u=Value.int i t from rx);cases q;exact y0 PySem.W.kitx_int I.ie True.intro e (λz=>nomatch z) h
 | str y=>let⟨t,q⟩:=(show∃t,u=Value.str y t from rx);cases q;exact y0 PySem.W.kitx_str I.ie True.intro e (λz=>nomatch z) h
 | K2 y=>let⟨t,q⟩:=(show∃t,u=Value.float y t from rx);cases q;exact y0 PySem.W.kitx_float I.ie True.intro e (λz=>nomatch z) h
 | @lst a xs ea=>
  cases(show u=Value.ref a from rx);let⟨_,_,n,_,h1⟩:=(show aW X.prog X.w H s.heap a (.lst xs) from I.aT a _ ea)
  exact y0 PySem.W.kitx_list I.ie {_,h1,rfl} e (λz=>nomatch z) h
 | @jF a ob xs ea=>
  cases(show u=Value.ref a from rx);let⟨_,_,_,n,_,h1⟩:=(show aW X.prog X.w H s.heap a (.jF ob (.lst xs)) from I.aT a _ ea)
  exact y0 PySem.W.kitx_list I.ie {_,h1,rfl} e (λz=>nomatch z) h
 | @tup a xs ea=>
  cases(show u=Value.ref a from rx);let⟨_,_,_,p⟩:=(show aW X.prog X.w H s.heap a (.tup xs) from I.aT a _ ea)
  let⟨o,h1,h2,_⟩:=p;exact y0 PySem.W.kitx_tuple I.ie {(o),h1,h2} e (λz=>nomatch z) h
 | @dK a kvs ea=>
  cases(show u=Value.ref a from rx);let⟨_,_,vs,_,p⟩:=(show aW X.prog X.w H s.heap a (.dK kvs) from I.aT a _ ea)
  let⟨o,es,ep,h1,h2,_⟩:=p;exact y0 PySem.W.kitx_dict I.ie {(o),h1,h2.1} e (λz=>nomatch z) h
 | @dT a kvs ea=>
  cases(show u=Value.ref a from rx);let⟨_,_,xs,_,o,es,ep,h1,h2,_⟩:=(show aW X.prog X.w H s.heap a (.dT kvs) from I.aT a _ ea)
  exact y0 PySem.W.kitx_dict I.ie {(o),h1,h2.1} e (λz=>nomatch z) h
 | @ins a C dx fs ea cl ha hn htk hm=>
  cases(show u=Value.ref a from rx);let⟨mA,O,_⟩:=AD I.aT ea;let⟨od,J,_⟩:=O.look;exact y0 (PySem.W.kitx_own (cl.get _) cl.hd ha hn htk hm) I.ie J e (λz=>nomatch z) h
end
end L2
namespace L2
open PySem PySem.Spec PyProof.Rows
structure df (k:Nat) (A:wR):Prop where
 hd:A.handled=none
 dp:A.depth+3*k+5<recursionLimit
 un:A.units+16*k+200<cLine
def df.mono (r:df k A) (h:j<=k):df j A:={r.hd,by have:=r.dp;ext,by have:=r.un;ext}
theorem df.deeper (r:df (k+1) A) (env:Env):df k (A.deeper env):=
 {r.hd,by have:=r.dp;show A.depth+1+3*k+5<_;ext,by have:=r.un;show A.units+3+16*k+200<_;ext}
def Er {A:wR} {C:wV} {us:List wM} {kw:List (Str×wM)}:(A.under (.builtin "type.__call__" {.ref C::us,kw})).depth=A.depth+1:=by
 first | rfl | simp[Around.under,Code.weight,Code.isCreation,Code.isGuard,Code.isCaller,Code.frames,Code.isFrame,guardIds]
def Ep {A:wR} {C:wV} {us:List wM} {kw:List (Str×wM)}:(A.under (.builtin "type.__call__" {.ref C::us,kw})).units=A.units+1:=by
 first | rfl | simp[Around.under,Code.cUnits,Code.frames,Code.isFrame]
def df.make (r:df (k+1) A) (C:wV) (us:List wM) (kw:List (Str×wM)):df k (A.under (.builtin "type.__call__" {.ref C::us,kw})):=
 {r.hd,by have:=r.dp;rw[Er];ext,by have:=r.un;rw[Ep];ext}
theorem df.depth (r:df k A):A.depth<recursionLimit:=by have:=r.dp;ext
theorem df.units (r:df k A):A.units+64<cLine:=by have:=r.un;ext
def bK:TA:=λ_ H Q=>Q [] H
def aF (ta:TE) (tr:TA):TA:=λU H Q=>ta U H λx H1=>tr U H1 λxs H2=>Q (x::xs) H2
section
variable {X:Cx} {e:Expr} {es:List Expr} {te:TE} {t:TA} {pos:Pos}
def af:PA X [] bK:=λ_ _ _ _ H Q I h=>wK {[],H,I,.nil,h}
def aa (ha:PE X e te) (hr:PA X es t) (hs:starEach (e::es) X.env=(false,eval e X.env)::starEach es X.env<|>qe_):PA X (e::es) (aF te t):=by
 intro pos pins s U H Q I h;rw[hs];show wpAny _ _ (spliced ((false,eval e X.env)::backTo pos (starEach es X.env))) _ _ s;refine xZ (bR (ha pins s U H _ I h) λu s1 zz=>?_);let⟨x,H1,I1,r1,q1⟩:=zz;exact bR (hr pos pins s1 U H1 _ I1 q1) λus s2 ⟨xs,H2,I2,r2,q2⟩=>{x::xs,H2,I2,.cons r1 r2,q2}
def Gm (t:TA):TE:=λU H Q=>t U H λxs H1=>⇑xs<=sizeLine/\∀p,H1 p=none->Q (.ref p) (upd H1 p (.tup xs))
def BD (t:TA):TE:=λU H Q=>t U H λxs H1=>⇑xs<=sizeLine/\∀p,H1 p=none->Q (.ref p) (upd H1 p (.lst xs))
def bB {x1} (h:PA X es t):PE X (.Tuple es x1 pos) (Gm t):=by
 intro pins s U H Q I hq;refine wpAny_Tuple_spliced (bR (h pos pins s U H _ I hq) λus s1 ⟨xs,H1,I1,r,z,q⟩=>{by rw[<-⇑r];exact z,?_});let hf:H1 ↑s1=none:=I1.aT.fresh (zh _);refine{.ref ↑s1,upd H1 ↑s1 (.tup xs),I1.laid (t':=s1.toks) (λb u e=>yk _ e) (zh _) ?_,rfl,q _ hf};exact{z,us,r,{_,yn _ rfl,rfl,_,rfl}}
def bg (h:PA X es t):PE X (.List es pos) (BD t):=by
 intro pins s U H Q I hq;refine wpAny_List_spliced (bR (h pos pins s U H _ I hq) λus s1 ⟨xs,H1,I1,r,z,q⟩=>{by rw[<-⇑r];exact z,?_});let hf:H1 ↑s1=none:=I1.aT.fresh (zh _);refine{.ref ↑s1,upd H1 ↑s1 (.lst xs),I1.laid (t':=s1.toks) (λb u e=>yk _ e) (zh _) ?_,rfl,q _ hf};exact{z,us,0,r,yn _ rfl}
end
abbrev Sp:=List V->Hp->VK->XK->Prop
abbrev DC:=List Env->Hp->wN->XK->wM->wN->Prop
structure DA (P:wO) (w:wQ) (K:yr) (mg:Str->Option wM) (base:wW) (A:wR) (outer:List Env) (s:wN) (H:Hp):Prop where
 frames:A.frames=some outer
 mod:Mod K mg base
 bs:∀b o,base.get? b=some o->s.heap.get? b=some o/\H b=none
 Hr:base.objs.size<=↑s
 kf:s.heap.FunFrames base outer
 AG:∀b∈gr outer,H b=none
 aT:kQ P w H s.heap
 bare:AllBare s.gens
def CE (outer:List Env) (P:wO) (w:wQ) (H:Hp) (s:wN) (Q:VK) (u:wM) (s':wN):Prop:=
 ∃v H',s'.os=s.os/\AllBare s'.gens/\Un (gr outer) [] H H' s.heap s'.heap/\kQ P w H' s'.heap/\RelV v u/\Q v H'
def CR (CX:DC) (outer:List Env) (P:wO) (w:wQ) (H:Hp) (s:wN) (Q:VK) (E:XK) (r:Result) (s':wN):Prop:=
 match r with
 | .ok (.ret u)=>CE outer P w H s Q u s'
 | .ok _=>False
 | .error e=>CX outer H s E e s'
structure bL (P:wO) (w:wQ) (K:yr) (mg:Str->Option wM) (base:wW) (CX:DC) (k:Nat) (f:wV) (fd:wU) (ps:List Str) (sp:Sp):Prop where
 len:∀vs H Q E,sp vs H Q E->⇑vs=⇑ps
 run:∀(A:wR) (outer:List Env) (s:wN) (H:Hp) (args:Args) (us:List wM) (vs:List V) (Q:VK) (E:XK),df k A->DA P w K mg base A outer s H->BindsTo s fd args (ps.zip us)->Vals vs us->sp vs H Q E->
  codeAny (model P w) A (.call (.ref f) args) (CR CX outer P w H s Q E) s
theorem bL.mono {P:wO} {w:wQ} {K:yr} {mg:Str->Option wM} {base:wW} {CX:DC} {j k:Nat} {f:wV} {fd:wU} {ps:List Str} {sp:Sp} (F:bL P w K mg base CX j f fd ps sp) (h:j<=k) :
  bL P w K mg base CX k f fd ps sp:={F.len,λA outer s H args us vs Q E hr=>F.run A outer s H args us vs Q E (hr.mono h)}
def DA.make {P:wO} {w:wQ} {K:yr} {mg:Str->Option wM} {base:wW} {A:wR} {outer:List Env} {s:wN} {H:Hp} (e:DA P w K mg base A outer s H) (C:wV) (us:List wM) (kw:List (Str×wM)) :
  DA P w K mg base (A.under (.builtin "type.__call__" {.ref C::us,kw})) outer s H:={by first | exact e.frames | (simpa[Around.under,Code.envs,Code.isFrame,pushEnvs] using e.frames),e.mod,e.bs,e.Hr,e.kf,e.AG,e.aT,e.bare}
section
variable {X:Cx} {pins:List (wV×Obj)} {U:St} {H:Hp} {s s':wN}
def Inv.GY (I:Inv X pins U H s):DA X.prog X.w X.K X.mg X.base X.A X.stack s H:=
 {I.ok.frames,I.ok.mod,I.bs,zJ I.ok.Hr I.sz,I.stack,I.iP,I.aT,I.bare}
def Inv.after (I:Inv X pins U H s) (h:CE X.stack X.prog X.w H s Q u s'):EP X pins U Q u s':=by
 let⟨v,H',os,bare,un,aT,r,q⟩:=h;let⟨hh,g,d,t,os'⟩:=s';obtain rfl:os'=s.os:=os;exact{v,H',I.call (h':=hh) (g':=g) (d':=d) (t':=t) (ch:=[]) un aT bare (λb z=>absurd z (by simp)),r,q}
end
def cy (sp:Sp) (dvs:List V) (E:XK) (t:TA):TE:=λU H Q=>t U H λvs H1=>sp (vs++dvs) H1 Q E
def N7 (C:wV) (sp:Sp) (dvs:List V) (E:XK) (t:TA):TE:=λU H Q=>t U H λvs H1=>∀x dx,H1 x=none->H1 dx=none->dx≠x->
 sp (.ref x::(vs++dvs)) (upd (upd H1 dx (.own x)) x (.ins C dx [])) (λv H2=>v=.aU/\Q (.ref x) H2) E
def Binds (K:yr) (fd:wU) (ps:List Str) (ds:List wM):Prop:=
 ∀(s:wN) (us:List wM),K.In s.heap->⇑(us++ds)=⇑ps->BindsTo s fd {us,[]} (ps.zip (us++ds))
def Binds.all {K:yr} {fd:wU} {ps:List Str} (h:∀us:List wM,⇑us=⇑ps->bindArgs fd {us,[]}=pure (ps.zip us)):Binds K fd ps []:=λs us _ hl=>by
 rw[zQ] at hl ⊢;exact .of_eq (h us hl)
def Passes (CX:DC) (X:Cx) (E:XK):Prop:=∀(pins:List (wV×Obj)) (U:St) (H:Hp) (s:wN) (e:wM) (s':wN),Inv X pins U H s->CX X.stack H s E e s'->X.xe e s'
section
variable {X:Cx} {CX:DC} {k:Nat} {f C:wV} {fd:wU} {ps:List Str} {sp:Sp} {dvs:List V} {ds:List wM} {E:XK} {x m:Str} {p pos apos:Pos} {e o:Expr} {es:List Expr} {ta:TE} {t:TA}
def HZ (F:bL X.prog X.w X.K X.mg X.base CX k f fd ps sp) (hr:df k X.A) (hb:Binds X.K fd ps ds) (hd:Vals dvs ds) (hx:Passes CX X E)
  (I:Inv X pins U H s) (r:Vals vs us) (h:sp (vs++dvs) H Q E):wpAny (model X.prog X.w) X.A (call (.ref f) us) (EP X pins U Q) X.xe s:=by
 let r2:Vals (vs++dvs) (us++ds):=r.append hd;let hl:⇑(us++ds)=⇑ps:=by rw[<-⇑r2];exact F.len _ _ _ _ h
 refine wpAny_call (xA (F.run X.A X.stack s H {us,[]} (us++ds) (vs++dvs) Q E hr I.GY (hb s us I.ie hl) r2 h) λr s' hq=>?_);cases r with
 | error e=>exact hx pins U H s e s' I hq
 | ok fl=>
  cases fl with
  | ret u=>exact I.after hq
  | next=>exact False.elim hq
  | brk=>exact False.elim hq
  | cont=>exact False.elim hq
def mK (F:bL X.prog X.w X.K X.mg X.base CX k f fd ps sp) (hr:df k X.A) (hg:Gl X x) (hm:X.mg x=some (.ref f)) (hk:PySem.W.keepIn X.K (.ref f)=true) (hb:Binds X.K fd ps ds) (hd:Vals dvs ds) (hx:Passes CX X E)
  (ha:PA X (e::es) t) (hdb:(x == ("__debug__": Str))=false<|>qb_) (he:starEach (e::es) X.env=(false,eval e X.env)::starEach es X.env<|>qe_) (hpl:(backTo pos (starEach es X.env)).any (·.1)=false<|>qe_) :
  PE X (.Call (.Name x p) (e::es) [] pos) (cy sp dvs E t):=by
 intro pins s U H Q I h;refine y8 (d6 I hg hm ?_ hdb);refine wG (h₀:=X.base) I.ok.mod.KW hk (bR (ha pos pins s U H _ I h) λus s1 ⟨vs,H1,I1,r,q⟩=>{I1.ie,?_}) he hpl;exact HZ F hr hb hd hx I1 r q
structure Mk (K:yr) (C f:wV):Prop where
 makes:PySem.W.makesIn K C=true
 init:PySem.W.findIn K (.ref C) "__init__"= some (some (.ref f))
 fn:PySem.W.isFn K (.ref f)=true
 kp:PySem.W.keepIn K (.ref C)=true
def HY (M:Mk X.K C f) (F:bL X.prog X.w X.K X.mg X.base CX k f fd ps sp) (hr:df (k+1) X.A) (hb:Binds X.K fd ps ds) (hd:Vals dvs ds)
  (hx:Passes CX X E) (I:Inv X pins U H s) (r:Vals vs us)
  (h:∀x dx,H x=none->H dx=none->dx≠x->sp (.ref x::(vs++dvs)) (upd (upd H dx (.own x)) x (.ins C dx [])) (λv H2=>v=.aU/\Q (.ref x) H2) E) :
  wpAny (model X.prog X.w) X.A (call (.ref C) us) (EP X pins U Q) X.xe s:=by
 let hq:=h (↑s+1) ↑s (I.aT.fresh (xI _)) (I.aT.fresh (zh _)) (ya (xw _));let I2:=Inv.made (C:=C) I;let r2:Vals (V.ref (↑s+1)::(vs++dvs)) (Value.ref (↑s+1)::(us++ds)):=.cons rfl (r.append hd);let hl:⇑(Value.ref (↑s+1)::us++ds)=⇑ps:=by
  let e:=⇑r2;rw[F.len _ _ _ _ hq] at e;exact e.symm
 refine wpAny_call (IX (f:=f) I.ie M.makes M.init (wD.mp M.fn) (xA (F.run _ X.stack _ _ {Value.ref (↑s+1)::us,[]} (Value.ref (↑s+1)::(us++ds)) _ _ E (hr.make C us [])
  (I2.GY.make C us []) (hb _ (Value.ref (↑s+1)::us) I2.ie hl) r2 hq) λr s' hq'=>?_))
 cases r with
 | error e=>exact hx pins U _ _ e s' I2 hq'
 | ok fl=>
  cases fl with
  | ret u=>
   let⟨v,H',I3,rv,ev,q3⟩:=I2.after hq';subst ev;exact{rv,{V.ref (↑s+1),H',I3,rfl,q3}}
  | next=>exact False.elim hq'
  | brk=>exact False.elim hq'
  | cont=>exact False.elim hq'
def IE (M:Mk X.K C f) (F:bL X.prog X.w X.K X.mg X.base CX k f fd ps sp) (hr:df (k+1) X.A) (hg:Gl X x) (hm:X.mg x=some (.ref C)) (hb:Binds X.K fd ps ds) (hd:Vals dvs ds) (hx:Passes CX X E)
  (hdb:(x == ("__debug__": Str))=false<|>qb_):PE X (.Call (.Name x p) [] [] pos) (N7 C sp dvs E bK):=by
 intro pins s U H Q I h;refine y8 (d6 I hg hm ?_ hdb);exact PySem.W.callWith_K0 I.ie M.kp (HY (us:=[]) M F hr hb hd hx I .nil h)
end
section
variable {X:Cx} {CX:DC} {k:Nat} {f C:wV} {fd:wU} {ps ks:List Str} {sp:Sp} {E:XK} {x m:Str} {p pos apos kpos:Pos} {e o:Expr} {es:List Expr} {kws:List Keyword} {te ta:TE} {t tk:TA} {nm:Option Str}
variable {g:List wM->List wM->List wM} {gV:List V->List V->List V}
end
structure cQ (N P:List Str) (sc:Scope):Prop where
 kind:sc.kind=.function
 co:sc.isCoroutine=false
 gen:sc.isGenerator=false
 nd:N.Nodup
 pre:N.take P.length=P
 par:∀x∈P,sc.names.lookup x=some .local\/sc.names.lookup x=some .cell
 MQ:∀y∈sc.names,y.2≠.free
theorem vo {kindOf:Str->Option NameKind} {x:Str}:∀{binds:List (Str×wM)} {m:Str->Option wM},(∀v,(x,v)∉binds)->bindL kindOf binds m x=m x
 | [],_,_=>rfl
 | (n,v)::r,m,h=>by
  unfold bindL;rw[vo λw hw=>h w (zj _ hw)];split
  ·have:x≠n:=by rintro rfl;exact h v zk
   simp[this]
  ·rfl
theorem vt {kindOf:Str->Option NameKind} {x:Str}:∀{binds:List (Str×wM)} {m:Str->Option wM},(∀v,(x,v)∉binds)->bindC kindOf binds m x=m x
 | [],_,_=>rfl
 | (n,v)::r,m,h=>by
  unfold bindC;rw[vt λw hw=>h w (zj _ hw)];split
  ·rfl
  ·have:x≠n:=by rintro rfl;exact h v zk
   simp[this]
theorem vq {kindOf:Str->Option NameKind} {x:Str} {v:wM}:∀{P:List Str} {vs:List wM} {i:Nat} {m:Str->Option wM},P.Nodup->P[i]?=some x->vs[i]?=some v->kindOf x=some .local->
  bindL kindOf (P.zip vs) m x=some v
 | [],_,_,_,_,h,_,_=>by simp at h
 | _::_,[],_,_,_,_,h,_=>by simp at h
 | p::P,w::vs,0,m,nd,h1,h2,hk=>by
  simp at h1 h2;subst h1;subst h2;show bindL kindOf ((p,w)::P.zip vs) m p=_;unfold bindL;rw[vo λv hv=>(zW.mp nd).1 (xV hv).1,yF hk];simp
 | p::P,w::vs,i+1,m,nd,h1,h2,hk=>by
  show bindL kindOf ((p,w)::P.zip vs) m x=_;unfold bindL;exact vq (i:=i) (zW.mp nd).2 (by simpa using h1) (by simpa using h2) hk
theorem vv {kindOf:Str->Option NameKind} {x:Str} {v:wM}:∀{P:List Str} {vs:List wM} {i:Nat} {m:Str->Option wM},P.Nodup->P[i]?=some x->vs[i]?=some v->kindOf x≠some .local->
  bindC kindOf (P.zip vs) m x=some v
 | [],_,_,_,_,h,_,_=>by simp at h
 | _::_,[],_,_,_,_,h,_=>by simp at h
 | p::P,w::vs,0,m,nd,h1,h2,hk=>by
  simp at h1 h2;subst h1;subst h2;show bindC kindOf ((p,w)::P.zip vs) m p=_;unfold bindC;rw[vt λv hv=>(zW.mp nd).1 (xV hv).1,yE hk];simp
 | p::P,w::vs,i+1,m,nd,h1,h2,hk=>by
  show bindC kindOf ((p,w)::P.zip vs) m x=_;unfold bindC;exact vv (i:=i) (zW.mp nd).2 (by simpa using h1) (by simpa using h2) hk
def start (N:List Str) (vs:List V):St:=vs.map some++List.replicate (N.length-⇑vs) none
def fq (CX:DC) (P:wO) (w:wQ) (K:yr) (mg:Str->Option wM) (base:wW) (N:List Str) (qual:Str) (scope:Scope) (f:wV) (cd:wM) (A:wR) (outer:List Env) (s:wN) (H:Hp) (E:XK):Cx where
 prog:=P
 w:=w
 K:=K
 mg:=mg
 base:=base
 A:=A.deeper (envOfC qual scope ↑s f cd)
 N:=N
 s₀:=s
 H₀:=H
 env:=envOfC qual scope ↑s f cd
 outer:=outer
 stack:=envOfC qual scope ↑s f cd::outer
 ex:=[]
 calm:=true
 fn:=λ_=>true
 pn:=[]
 xe:=λe s'=>wpAny (model P w) (A.deeper (envOfC qual scope ↑s f cd)) (leaving (envOfC qual scope ↑s f cd) e) (λ_ s''=>CX outer H s E e s'') (λe' s''=>CX outer H s E e' s'') s'
def Dd {sc:Scope} {n:Nat} {x:Str} (h:sc.names.lookup x=some .cell):∃c,(cellsFrom n sc.names []).lookup x=some c:=by
 let q:=PySem.W.cellsFrom_some sc.names n [] (.inl h);exact Option.isSome_iff_exists.mp q
def GP {CX:DC} {P:wO} {w:wQ} {K:yr} {mg:Str->Option wM} {base:wW} {N ps:List Str} {qual:Str} {scope:Scope} {f:wV} {cd:wM} {A:wR} {outer:List Env} {s s1:wN} {H:Hp} {E:XK} {us:List wM} {vs:List V}
  (S:cQ N ps scope) (hd:A.handled=none) (e0:DA P w K mg base A outer s H) (hl:⇑vs=⇑ps) (r:Vals vs us)
  (x:InCallC s ↑s (bindL (envOfC qual scope ↑s f cd).kindOf (ps.zip us) λ_=>none) (cellsFrom (↑s+1) scope.names []) (bindC (envOfC qual scope ↑s f cd).kindOf (ps.zip us) λ_=>none) s1) :
  Inv (fq CX P w K mg base N qual scope f cd A outer s H E) [] (start N vs) H s1:=by
 let hpl:⇑ps<=N.length:=by have:=yQ List.length S.pre;rw[zN] at this;ext
 let⟨h1,tk,rfl,hk⟩:=x.done;let noA:∀b:wV,b∉(fq CX P w K mg base N qual scope f cd A outer s H E).ex:=λb z=>absurd (show b∈([]:List wV) from z) (by simp);refine{{e0.mod,S.kind,rfl,rfl,zh _,λy z c h1 h2=>?_,λy hy=>?_,λy c _ h=>?_,λ_=>hd,Around.frames_deeper e0.frames,.inr {(rfl),rfl},λb z=>absurd z (noA b),e0.bs,e0.Hr,λb _ _=>noA b,λb z=>absurd z (noA b),e0.kf,e0.AG},
  rfl,e0.bare,Un.kept hk,{_,x.toInCall.ns,λi y v h1 h2 h3=>?_},λy c h=>{_,x.cell y c h},e0.aT.fresh (zh _),λy c h=>?_,λp hp=>absurd (show p∈([]:List (wV×Obj)) from hp) (by simp),e0.aT.kept hk,?_}
 ·exact name_of_addr x.apart (xR h1) (xR h2)
 ·let hy:scope.names.lookup y=some .cell\/scope.names.lookup y=some .free:=hy
  rcases hy with hy | hy
  ·exact Dd hy
  ·exact absurd rfl (S.MQ _ (xR hy))
 ·exact z0 (x.above y c (xR h))
 ·let hi:i<⇑vs:=by
   unfold start at h2
   by_cases hi:i<⇑vs
   ·exact hi
   ·rw[zT (by simpa using hi)] at h2
    rw[List.getElem?_replicate] at h2;split at h2 <;> cases h2
  let ha:vs[i]?=some v:=by
   unfold start at h2;rw[xQ (by simpa using hi),zH] at h2;cases e:vs[i]? with
   | none=>rw[e] at h2;cases h2
   | some a=>rw[e] at h2;cases h2;rfl
  let⟨u,hu,rv⟩:=r.get ha;let hp:ps[i]?=some y:=by
   rw[<-S.pre,List.getElem?_take_of_lt ()];exact h1
  let ndP:ps.Nodup:=by rw[<-S.pre];exact S.nd.sublist (List.take_sublist _ _)
  refine{u,rv,?_};rcases S.par y (zy hp) with k | k
  ·exact .inl {k,vq ndP hp hu k}
  ·let⟨c,e⟩:=Dd (n:=↑s+1) k
   refine .inr {.inl k,c,e,?_};let q:=x.cell y c e;rw[vv ndP hp hu (by show scope.names.lookup y≠_;rw[k];decide)] at q;exact q
 ·exact e0.aT.fresh (z0 (x.above y c (xR h)))
 ·unfold start
  show _=N.length;rw[ze,za,List.length_replicate];ext
def Jt {CX:DC} {P:wO} {w:wQ} {K:yr} {mg:Str->Option wM} {base:wW} {k:Nat} {f:wV} {name qual:Str} {params:Arguments} {body:List Stmt} {scope:Scope} {dV kV doc pm cdv ct oc:wM} {an od:Option wV}
  {osl:Array (Option wM)} {N ps:List Str} {sp:Sp} (lk:K.lookup f=some {oc,od,.func (PySem.W.fnOf name qual params body scope dV kV doc pm an cdv ct),osl}) (hcd:PySem.W.codeIn K cdv qual=true) (S:cQ N ps scope)
  (len:∀vs H Q E,sp vs H Q E->⇑vs=⇑ps)
  (hbody:∀(A:wR) (outer:List Env) (s:wN) (H:Hp) (vs:List V) (Q:VK) (E:XK),df k (A.deeper (envOfC qual scope ↑s f cdv))->sp vs H Q E->
   ∃t,uk (fq CX P w K mg base N qual scope f cdv A outer s H E) body t/\t {nx:=λ_ H'=>Q .aU H',rt:=Q} (start N vs) H) :
  bL P w K mg base CX (k+1) f (PySem.W.fnOf name qual params body scope dV kV doc pm an cdv ct) ps sp:=by
 refine{len,λA outer s H args us vs Q E hr e0 hb r hsp=>?_};let hl:=len _ _ _ _ hsp;let KX:K.In s.heap:=e0.mod.KW.keeps λb o e=>(e0.bs b o e).1;let lim:s.heap.NoLimit:=e0.mod.nolimit.keeps λb o e=>(e0.bs b o e).1;let hkind:∀y∈ps.zip us,scope.names.lookup y.1=some .local\/(scope.names.lookup y.1=some .cell/\((cellsFrom (↑s+1) scope.names []).lookup y.1).isSome=true):=λ⟨n,v⟩ hy=>by
  rcases S.par n (xV hy).1 with q | q
  ·exact .inl q
  ·exact .inr {q,PySem.W.cellsFrom_some _ _ _ (.inl q)}
 refine codeAny_call_function hr.depth (KX _ _ lk) rfl S.co S.gen rfl (PySem.W.codeRec_of KX hcd) (hb _ _ _ _ ?_);refine wpAny_newFunctionEnv_cells S.kind hkind λenv he s1 x=>?_;subst he;refine{lim.keeps x.toInCall.keep,codeAny_func ?_};let⟨t,ht,hq⟩:=hbody A outer s H vs Q E (hr.deeper _) hsp;let I:Inv (fq CX P w K mg base N qual scope f cdv A outer s H E) [] (start N vs) H s1:=GP S hr.hd e0 hl r x;refine yV (ht [] s1 (start N vs) H _ I hq) (λfl s' hs=>?_) λe s' hs=>hs;let fin:∀{U':St} {H':Hp} {v:V} {u:wM},Inv (fq CX P w K mg base N qual scope f cdv A outer s H E) [] U' H' s'->RelV v u->Q v H'->CE outer P w H s Q u s':=
  λ{U' H' v u} J rv q=>{(v),H',J.os,J.bare,J.base,J.aT,rv,q}
 cases fl with
 | ret u=>
  let⟨v,U',H',J,rv,q⟩:=hs;exact fin J rv q
 | next=>
  let⟨U',H',J,q⟩:=hs;exact fin (v:=V.aU) (u:=Value.none) J rfl q
 | brk=>
  let⟨_,_,_,q⟩:=hs;exact False.elim q
 | cont=>
  let⟨_,_,_,q⟩:=hs;exact False.elim q
end L2
namespace L2
open PySem PySem.Spec PyProof.Rows
section
variable {X:Cx} {x:Str} {p pos:Pos} {e:Expr} {es:List Expr} {t:TA} {id T:String} {r:List V->Hp->VK->Prop}
def uB (r:List V->Hp->VK->Prop) (t:TA):TE:=λU H Q=>t U H λvs H1=>r vs H1 Q
def Cb (hc:cZ X (.builtin id) r) (hg:Gl X x) (hm:X.mg x=none) (hv:bootBuiltins x=some (.builtin id)) (ha:PA X (e::es) t) (hn:x≠ "__name__"<|>qb_) (hdb:(x == ("__debug__": Str))=false<|>qb_)
  (he:starEach (e::es) X.env=(false,eval e X.env)::starEach es X.env<|>qe_) (hpl:(backTo pos (starEach es X.env)).any (·.1)=false<|>qe_):PE X (.Call (.Name x p) (e::es) [] pos) (uB r t):=by
 intro pins s U H Q I h;refine y8 (j7 I hg hm hv ?_ hn hdb);exact PyProof.Rows.callWith_builtin1 (bR (ha pos pins s U H _ I h) λus s1 ⟨vs,H1,I1,r1,q1⟩=>hc pins s1 U H1 vs us Q I1 r1 q1) he hpl
def GG (hc:cZ X (.type T) r) (hg:Gl X x) (hm:X.mg x=none) (hv:bootBuiltins x=some (.type T)) (ha:PA X (e::es) t) (hn:x≠ "__name__"<|>qb_) (hdb:(x == ("__debug__": Str))=false<|>qb_)
  (he:starEach (e::es) X.env=(false,eval e X.env)::starEach es X.env<|>qe_) (hpl:(backTo pos (starEach es X.env)).any (·.1)=false<|>qe_):PE X (.Call (.Name x p) (e::es) [] pos) (uB r t):=by
 intro pins s U H Q I h;refine y8 (j7 I hg hm hv ?_ hn hdb);exact yD (bR (ha pos pins s U H _ I h) λus s1 ⟨vs,H1,I1,r1,q1⟩=>hc pins s1 U H1 vs us Q I1 r1 q1) he hpl
end
end L2
namespace HT
open PySem PyProof.Rows
section
open PySem.SeqAt
open PySem.AutoSeq1 (wpAny_loadPart')
open PySem.MeetsSeq PySem.MeetsSeq2 PySem.MeetsSeq3
end
section
variable {prog:wO} {w:wQ} {A:wR} {E:wM->wN->Prop} {s:wN}
def c0 (n d:Nat):Option Int->Nat
 | none=>d
 | some v=>if v<0 then(v+(n:Int)).toNat else min v.toNat n
def BZ (n d:Nat):c0 n d none=d:=rfl
def Mv (n d:Nat) (hd:d<=n) (o:Option Int):c0 n d o<=n:=by
 cases o with
 | none=>exact hd
 | some v=>
  show(if v<0 then(v+(n:Int)).toNat else min v.toNat n)<=n
  by_cases hv:v<0
  ·rw[yF hv];ext
  ·rw[yE hv];exact Nat.min_le_right _ _
def FZ (v:Int) (n d:Nat):(if v<0 then max (v+(n:Int)) 0 else min v (n:Int))=((c0 n d (some v):Nat):Int):=by
 show(if v<0 then max (v+(n:Int)) 0 else min v (n:Int))=(((if v<0 then(v+(n:Int)).toNat else min v.toNat n):Nat):Int)
 by_cases hv:v<0
 ·simp only[yF hv];ext
 ·simp only[yE hv];ext
def EY (lo hi:Option Int) (n:Nat):Builtin.Slice.sliceAdjust lo hi 1 (n:Int)=(((c0 n 0 lo:Nat):Int),((c0 n n hi:Nat):Int)):=by
 let h1:¬((1:Int)<0):=()
 unfold Builtin.Slice.sliceAdjust;simp only[h1,xS];refine Prod.ext ?_ ?_
 ·cases lo with
  | none=>rfl
  | some v=>exact FZ v n 0
 ·cases hi with
  | none=>rfl
  | some v=>exact FZ v n n
def Ee (i j:Nat):Builtin.Slice.slicePlaces (i:Int) (j:Int) 1=j-i:=by
 unfold Builtin.Slice.slicePlaces;let h1:(1:Int)>0:=()
 simp only[h1,wB,Int.ediv_one];split <;> ext
def qp (p:IsPart v o) (h:Q o s):wpAny (model prog w) A (Builtin.Slice.slicePartIndex v) Q E s:=by
 cases p with
 | none=>exact slicePart_none h
 | int i t=>exact slicePart_int h
def ik {sl:wV} {vl vu:wM} {lo hi:Option Int} {n:Nat} {Q:Int×Int×Nat->wN->Prop} (hs:s.heap.IsSliceOf sl vl vu .none) (pl:IsPart vl lo) (pu:IsPart vu hi)
  (h:Q (((c0 n 0 lo:Nat):Int),1,c0 n n hi-c0 n 0 lo) s):wpAny (model prog w) A (Builtin.Slice.sliceApplied (.ref sl) (pure (n:Int))) Q E s:=by
 let⟨os,hos,hcs,hds⟩:=id hs;unfold Builtin.Slice.sliceApplied Builtin.Slice.sliceFields;refine yj (yj (yR hos hds (x:=vl) rfl (yj (yR hos hds (x:=vu) rfl (yj (yR hos hds (x:=.none) rfl (ym ?_)))))));refine yj (slicePart_none ?_);show wpAny _ _ (if((1:Int) == 0)=true then _ else _) _ _ s;rw[yE ∅];refine yj (qp pl (yj (qp pu (yj (ym ?_)))));show wpAny _ _ (match Builtin.Slice.sliceAdjust lo hi 1 (n:Int) with | (lo,hi)=>pure (lo,(1:Int),Builtin.Slice.slicePlaces lo hi 1)) _ _ s;rw[EY lo hi n];show wpAny _ _ (pure (((c0 n 0 lo:Nat):Int),(1:Int),Builtin.Slice.slicePlaces ((c0 n 0 lo:Nat):Int) ((c0 n n hi:Nat):Int) 1)) _ _ s;rw[Ee];exact ym h
def IA (xs:Array wM) (i k:Nat):((List.range k).filterMap λ(m:Nat)=>xs[((i:Int)+(m:Int)*1).toNat]?).toArray=((xs.toList.drop i).take k).toArray:=by
 let e:(λ(m:Nat)=>xs[((i:Int)+(m:Int)*1).toNat]?)=λm=>xs[i+m]?:=by
  funext m
  have:((i:Int)+(m:Int)*1).toNat=i+m:=()
  rw[this]
 rw[e];have:=pick_run xs i k;rw[List.filterMap_map] at this;let e2:((λx=>xs[x]?)∘λx=>i+x)=λm=>xs[i+m]?:=rfl;rw[e2] at this;rw[this]
def mX {t sl:wV} {items:Array wM} {vl vu:wM} {lo hi:Option Int} {Q:wM->wN->Prop} (ht:IsTup s.heap t items) (hs:s.heap.IsSliceOf sl vl vu .none) (pl:IsPart vl lo) (pu:IsPart vu hi)
  (hw:¬(c0 items.size 0 lo=0/\c0 items.size items.size hi=items.size))
  (h:Q (.ref ↑s) {s with heap:=s.heap.push {cls:=.type "tuple",data:=.seq ((items.toList.drop (c0 items.size 0 lo)).take (c0 items.size items.size hi-c0 items.size 0 lo)).toArray}})
  (hsz:items.size<=sizeLine):wpAny (model prog w) A (getItem (.ref t) (.ref sl)) Q E s:=by
 let htake:sizeOk (.seq ((items.toList.drop (c0 items.size 0 lo)).take (c0 items.size items.size hi-c0 items.size 0 lo)).toArray):=by
  show((items.toList.drop (c0 items.size 0 lo)).take (c0 items.size items.size hi-c0 items.size 0 lo)).toArray.size<=sizeLine;rw[zU,zN,xj,yH];ext
 let hj:c0 items.size items.size hi<=items.size:=Mv _ _ (zh _) hi;let⟨os,hos,hcs,hds⟩:=id hs;let hTs:s.TypeIs (.ref sl) "slice":={(os),hos,hcs}
 unfold getItem
 try with_reducible refine xo ?_
 first | refine yj (ym ?_) | skip
 refine yj (wpAny_sequenceKey ht.typeIs ∅ ?_);refine yj (yP (name:=Str.ofString "__getitem__") ht.typeIs xu
  (yT xu ht.typeIs entry_tuple_getitem ?_ (args_tuple_getitem _ _)))
 show wpAny _ _ (Builtin.Tuple.tupleItemsOf (.ref t) >>= _) _ _ s;refine yj (tupleItemsOf_ ht ?_);refine yj (wC hTs ?_);rw[yF ∅];refine yj (ik hs pl pu ?_);let hno:¬((((c0 items.size 0 lo:Nat):Int) == 0&&(1:Int) == 1&&(c0 items.size items.size hi-c0 items.size 0 lo) == items.size)=true):=by
  intro q;rw[zL,zL] at q;let q1:((c0 items.size 0 lo:Nat):Int)=0:=eq_of_beq q.1.1;let q2:c0 items.size items.size hi-c0 items.size 0 lo=items.size:=eq_of_beq q.2;exact hw {(()),()}
 show wpAny _ _ (if(((c0 items.size 0 lo:Nat):Int) == 0&&(1:Int) == 1&&(c0 items.size items.size hi-c0 items.size 0 lo) == items.size)=true then _ else _) _ _ s;rw[yE hno,IA]
 first
  | exact yj (m:=Builtin.Tuple.tupleExact _) (yU (ym {_,rfl,ym h}) htake)
  | exact yj (m:=Builtin.Tuple.tupleExact _) (yU (yj (ym (ym {_,rfl,ym h}))) htake)
  | exact yj (yj (m:=Builtin.Tuple.tupleExact _) (yU (ym (ym {_,rfl,ym h})) htake))
  | exact yj (yj (m:=Builtin.Tuple.tupleExact _) (yU (ym {_,rfl,ym h}) htake))
end
end HT
namespace L2
open PySem PySem.Spec PyProof.Rows
abbrev TO:=St->Hp->(Option Int->Hp->Prop)->Prop
def PO (X:Cx) (e:Option Expr) (t:TO):Prop:=
 ∀(pins:List (wV×Obj)) (s:wN) (U:St) (H:Hp) (Q:Option Int->Hp->Prop),Inv X pins U H s->t U H Q->
  wpAny (model X.prog X.w) X.A (evalPart e X.env) (λu s'=>∃o H',Inv X pins U H' s'/\IsPart u o/\Q o H') X.xe s
def Kh:TO:=λ_ H Q=>Q none H
def HM (t:TE):TO:=λU H Q=>t U H λx H1=>∃i,x=.int i/\Q (some i) H1
def intsAre_of:∀{us:List wM},Vals (ns.map V.int) us->IntsAre us ns:=by
 induction ns with
 | nil=>intro us r;rw[yd] at r;cases r;exact .nil
 | cons n ns ih=>
  intro us r;rw[zf] at r;cases r with
  | cons r1 r2=>
   let⟨t,e⟩:=r1;subst e;exact .cons n t (ih r2)
section
variable {X:Cx} {e:Expr} {te:TE} {lo hi:Option Expr} {tl th:TO} {pos p2:Pos}
def cm:PO X none Kh:=by
 intro pins s U H Q I h;rw[evalPart_none];exact ym {none,H,I,.none,h}
def bZ (h:PE X e te):PO X (some e) (HM te):=by
 intro pins s U H Q I hw;rw[evalPart_some];refine bR (h pins s U H _ I hw) λu s1 zz=>?_;let⟨x,H1,I1,r1,q1⟩:=zz;let⟨i,rfl,q⟩:=q1;let⟨t,rfl⟩:=r1;exact{some i,H1,I1,.int i t,q}
def JS (X:Cx) (r:V->Option Int->Option Int->Hp->VK->Prop):Prop:=
 ∀(pins:List (wV×Obj)) (s:wN) (U:St) (H:Hp) (x:V) (v vl vu:wM) (lo hi:Option Int) (sl:wV) (Q:VK),Inv X pins U H s->RelV x v->s.heap.IsSliceOf sl vl vu .none->IsPart vl lo->IsPart vu hi->r x lo hi H Q->
  ∃T id,typeLookup (.type T) "__getitem__"= pure (some (.builtin id))/\s.TypeIs v T/\wpAny (model X.prog X.w) X.A (getItem v (.ref sl)) (EP X pins U Q) X.xe s
def JS.or (h:JS X r) (h':JS X r'):JS X (λx lo hi H Q=>r x lo hi H Q\/r' x lo hi H Q):=by
 intro pins s U H x v vl vu lo hi sl Q I rx hs pl pu q;rcases q with q | q
 ·exact h pins s U H x v vl vu lo hi sl Q I rx hs pl pu q
 ·exact h' pins s U H x v vl vu lo hi sl Q I rx hs pl pu q
def Qu (r:V->Option Int->Option Int->Hp->VK->Prop) (te:TE) (tl th:TO):TE:=λU H Q=>te U H λx H1=>tl U H1 λl H2=>th U H2 λu H3=>r x l u H3 Q
def bD (hr:JS X r) (he:PE X e te) (hl:PO X lo tl) (hu:PO X hi th):PE X (.Subscript e (.Slice lo hi none p2) pos) (Qu r te tl th):=by
 intro pins s U H Q I h;refine Subscript_ (bR (he pins s U H _ I h) λv s1 zz=>?_);let⟨x,H1,I1,r1,q1⟩:=zz;refine wpAny_Slice (bR (hl pins s1 U H1 _ I1 q1) λvl s2 ⟨l,H2,I2,pl,q2⟩=>bR (hu pins s2 U H2 _ I2 q2) λvu s3 zz=>?_);let⟨u,H3,I3,pu,q3⟩:=zz;rw[evalPart_none];refine ym ?_;let I4:Inv X pins U H3 {s3 with heap:=s3.heap.push {cls:=.type "slice",data:=.fields #[vl,vu,.none]}}:=I3.kept (t':=s3.toks) λb ob q=>yk _ q;let⟨T,id,hT,ht,hg⟩:=hr pins {s3 with heap:=s3.heap.push {cls:=.type "slice",data:=.fields #[vl,vu,.none]}} U H3 x v vl vu l u ↑s3 Q I4 r1 (Heap.IsSliceOf.new ..) pl pu q3;show wpAny (model X.prog X.w) X.A (subscriptTail e (.Slice lo hi none p2) v (.ref ↑s3)) (EP X pins U Q) X.xe {s3 with heap:=s3.heap.push {cls:=.type "slice",data:=.fields #[vl,vu,.none]}};exact tail_any (ops:=[.ref ↑s3,v]) ht hT hg (by with_unfolding_all rfl)
def gm (xs:List V) (lo hi:Option Int):List V:=(xs.drop (HT.c0 ⇑xs 0 lo)).take (HT.c0 ⇑xs ⇑xs hi-HT.c0 ⇑xs 0 lo)
def oV (xs:List V) (lo hi:Option Int):⇑(gm xs lo hi)<=⇑xs:=by
 unfold gm;rw[zN,xj];ext
def Oh (K:yr):V->Option Int->Option Int->Hp->VK->Prop:=λx lo hi H Q=>∃a xs,x=.ref a/\cx K H a xs/\
 ¬(HT.c0 ⇑xs 0 lo=0/\HT.c0 ⇑xs ⇑xs hi=⇑xs)/\∀p,H p=none->Q (.ref p) (upd H p (.tup (gm xs lo hi)))
def Mt:JS X (Oh X.K):=by
 intro pins s U H x v vl vu lo hi sl Q I rx hs pl pu h;let⟨a,xs,rfl,hx,hw,q⟩:=h;cases rx;let⟨its,r,ht,hz⟩:=I.tuple hx;let hlen:its.toArray.size=⇑xs:=by rw[zU];exact r.length.symm
 refine{"tuple",_,xu.lookup,ht.typeIs,?_};refine HT.mX ht hs pl pu (by rw[hlen];exact hw) ?_ (by rw[hlen];exact hz);rw[hlen];refine{.ref ↑s,_,I.laid (t':=s.toks) (o:=.tup (gm xs lo hi)) (λb ob q=>yk _ q) (zh _) ?_,rfl,q _ (I.aT.fresh (zh _))};exact{zJ (oV xs lo hi) hz,_,(r.drop (HT.c0 ⇑xs 0 lo)).take (HT.c0 ⇑xs ⇑xs hi-HT.c0 ⇑xs 0 lo),IsTup.new _ _}
end
end L2
namespace L2
open PySem PySem.Spec PyProof.Rows
def Ji (n:Nat) (i:Int):Option Nat:=if 0<=i then(if i<n then some i.toNat else none) else if -(n:Int)<=i then some (i+n).toNat else none
def Bu (xs:List α) (i:Int):Option α:=(Ji ⇑xs i).bind λj=>xs[j]?
def FL (h:Ji n i=some j):seqIndex? i n=some j/\j<n/\-(n:Int)<=i/\i<n:=by
 unfold Ji at h
 by_cases h0:0<=i
 ·rw[yF h0] at h
  by_cases h1:i<n
  ·rw[yF h1] at h
   let e:i.toNat=j:=yb h;exact{by rw[seqIndex_of h0 h1,e],(),(),h1}
  ·rw[yE h1] at h;cases h
 ·rw[yE h0] at h
  by_cases h1:-(n:Int)<=i
  ·rw[yF h1] at h
   let e:(i+n).toNat=j:=yb h;exact{by rw[seqIndex_neg () h1,e],(),h1,()}
  ·rw[yE h1] at h;cases h
def Bc (h:Bu xs i=some v):∃j,seqIndex? i ⇑xs=some j/\xs[j]?=some v/\j<⇑xs/\-(⇑xs:Int)<=i/\i<⇑xs:=by
 unfold Bu at h;cases e:Ji ⇑xs i with
 | none=>rw[e] at h;cases h
 | some j=>
  rw[e] at h;let⟨h1,h2,h3,h4⟩:=FL e;exact{(j),h1,h,h2,h3,h4}
def aQ {α:Type} {xs:List α} {j:Nat} {v:α} (h:xs[j]?=some v):Bu xs (j:Int)=some v:=by
 let hj:j<⇑xs:=(zt.mp h).1;let e:Ji ⇑xs (j:Int)=some j:=by
  unfold Ji;rw[yF (),yF ()];simp
 unfold Bu;rw[e];exact h
def Di (xs:List α) (v:α):Bu (xs++[v]) (-1)=some v:=by
 let hl:⇑(xs++[v])=⇑xs+1:=by simp
 let e:Ji ⇑(xs++[v]) (-1)=some ⇑xs:=by
  unfold Ji;rw[hl,yE ∅,yF ()]
  congr 1
  ext
 unfold Bu;rw[e];show(xs++[v])[⇑xs]?=some v;simp
def Bq (b:Expr):Prop:=∀o i,subscripted b false o i=operate [o,i] (getItem o i)
def Ph (X:Cx) (r:R2):Prop:=
 ∀(value slice:Expr) (pins:List (wV×Obj)) (s:wN) (U:St) (H:Hp) (x y:V) (v u:wM) (Q:VK),Inv X pins U H s->RelV x v->RelV y u->r x y H Q->
  subscripted slice false v u=operate [v,u] (getItem v u)->wpAny (model X.prog X.w) X.A (subscriptTail value slice v u) (EP X pins U Q) X.xe s
def QY (X:Cx) (id:String) (r:V->List V->Hp->VK->Prop):Prop:=
 ∀(pins:List (wV×Obj)) (s:wN) (U:St) (H:Hp) (x:V) (xs:List V) (v:wM) (us:List wM) (Q:VK),Inv X pins U H s->RelV x v->Vals xs us->r x xs H Q->
  wpAny (model X.prog X.w) X.A (call (.builtin id) (v::us)) (EP X pins U Q) X.xe s
section
variable {X:Cx} {a b:Expr} {ta tb:TE} {pos:Pos}
def IG (hr:Ph X r) (ha:PE X a ta) (hb:PE X b tb) (hs:Bq b):PE X (.Subscript a b pos) (eG r ta tb):=by
 intro pins s U H Q I h;exact Subscript_ (Nu ha hb I h λv u s2 x y H2 I2 rx ry q=>hr a b pins s2 U H2 x y v u Q I2 rx ry q (hs _ _))
inductive Iq (K:yr) (x y:V) (H:Hp) (Q:VK):Prop
 | mk (p:wV) (xs:List V) (i:Int) (v:V) (_:x=.ref p) (_:y=.int i) (_:aD K H p xs) (_:Bu xs i=some v) (_:Q v H)
inductive nO (K:yr) (x y:V) (H:Hp) (Q:VK):Prop
 | mk (p:wV) (xs:List V) (i:Int) (v:V) (_:x=.ref p) (_:y=.int i) (_:cx K H p xs) (_:Bu xs i=some v) (_:Q v H)
def P6:R2:=λx y H Q=>∃z i c,x=.str z/\y=.int i/\⇑z<=sizeLine/\Bu z.cps.toList i=some c/\Q (.str {#[c]}) H
def KY:Ph X (Iq X.K):=by
 intro value slice pins s U H x y v u Q I rx ry h hs;let⟨p,xs,i,z,rfl,rfl,hq,he,q⟩:=h;cases rx;let⟨t,rfl⟩:=ry;let⟨its,r,pl,hz⟩:=I.list hq;let⟨j,h1,h2,h3,h4,h5⟩:=Bc he;let⟨w,ew,rw'⟩:=r.get h2;let hl:=⇑r;let hn:=nY;let fin:EP X pins U Q w s:={(z),H,I,rw',q}
 by_cases h0:0<=i
 ·let hj:i.toNat=j:=by
   rw[seqIndex_of h0 h5] at h1;exact yb h1
  exact item_listR pl.isList h0 () (by rw[hj];simpa using ew) fin hs
 ·let hj:(i+(its.toArray.size:Int)).toNat=j:=by
   rw[seqIndex_neg () h4] at h1;rw[zU,<-hl];exact yb h1
  exact subscriptTail_builtinR (x:=w) pl.isList.typeIs slot_list_getitem.lookup
   (wpAny_getItem_list_neg (Q:=λr s'=>r=w/\EP X pins U Q r s') pl.isList () (by rw[zU] <;> ext) () (by rw[hj];simpa using ew) {(rfl),fin}) hs
def M4:Ph X (nO X.K):=by
 intro value slice pins s U H x y v u Q I rx ry h hs;let⟨p,xs,i,z,rfl,rfl,hq,he,q⟩:=h;cases rx;let⟨t,rfl⟩:=ry;let⟨its,r,pl,hz⟩:=I.tuple hq;let⟨j,h1,h2,h3,h4,h5⟩:=Bc he;let⟨w,ew,rw'⟩:=r.get h2;let hl:=⇑r;let hn:=nY;let fin:EP X pins U Q w s:={(z),H,I,rw',q}
 exact subscriptTail_builtinR (x:=w) pl.typeIs slot_tuple_getitem.lookup
  (getItem_tuple (j:=j) (Q:=λr s'=>r=w/\EP X pins U Q r s') pl () () (by rw[zU,<-hl];exact h1) (by simpa using ew) {(rfl),fin}) hs
def M5:Ph X P6:=by
 intro value slice pins s U H x y v u Q I rx ry h hs;let⟨z,i,c,rfl,rfl,hz,he,q⟩:=h;let⟨t,rfl⟩:=rx;let⟨t',rfl⟩:=ry;let⟨j,h1,h2,h3,h4,h5⟩:=Bc he;let hl:⇑z.cps.toList=⇑z:=by simp[Str.length]
 rw[hl] at h1 h4 h5;let hn:=nY;exact tail_any (wk s z t) slot_str_getitem.lookup (getItem_str (c:=c) (by
  let e1:decide (i < -(2^63:Int))=false:=zc ();let e2:decide (i≥2^63)=false:=zc ();rw[e1,e2,Bool.or_false]) (by rw[h1];simpa using h2) {.str {#[c]},H,I.tok _,{_,rfl},q}) hs
def Eo (its:List wM) (n j:Nat) (u:wM):Obj.mapSeq (·.setIfInBounds j u) {cls:=.type "list",data:=.seq its.toArray n}={cls:=.type "list",data:=.seq (its.set j u).toArray n}:=by
 simp[Obj.mapSeq]
theorem Inv.lst {pins:List (wV×Obj)} {U:St} {H:Hp} {s:wN} {p:wV} {xs:List V} (I:Inv X pins U H s) (h:H p=some (.lst xs)) :
  ∃(its:List wM) (n:Nat),Vals xs its/\s.heap.get? p=some {cls:=.type "list",data:=.seq its.toArray n}/\⇑xs<=sizeLine:=by
 let⟨z,its,n,r,e⟩:=I.aT p _ h;exact{(its),n,r,e,z}
def Inv.MV {pins:List (wV×Obj)} {U:St} {H:Hp} {s:wN} {p:wV} {xs ys:List V} {its its':List wM} {n n':Nat} {f:Obj->Obj} (I:Inv X pins U H s) (h:H p=some (.lst xs))
  (ho:s.heap.get? p=some {cls:=.type "list",data:=.seq its.toArray n}) (hf:f {cls:=.type "list",data:=.seq its.toArray n}={cls:=.type "list",data:=.seq its'.toArray n'}) (r:Vals ys its') (hz:⇑ys<=sizeLine) (t:Nat) :
  Inv X pins U (upd H p (.lst ys)) {s with heap:=s.heap.update p f,toks:=t}:=by
 let e:(s.heap.update p f).get? p=some {cls:=.type "list",data:=.seq its'.toArray n'}:=by
  rw[yq f ho (by rw[hf] <;> rfl),hf]
 refine I.write (x:=p) (e:=p) (by rw[h];trivial) (.inl rfl) (λb u hb q=>(yp _ _ (Ne.symm hb)).trans q) {_,e} ?_;exact{(hz),its',n',r,e}
def LG:V->V->V->Hp->(Hp->Prop)->Prop:=λo i v H Q=>∃p xs k j,o=.ref p/\i=.int k/\H p=some (.lst xs)/\Ji ⇑xs k=some j/\Q (upd H p (.lst (xs.set j v)))
def set_list:O2 X LG:=by
 intro pins s U H o i v ov iv u Q I ro ri rv h;let⟨p,xs,k,j,rfl,rfl,hp,hj,q⟩:=h;cases ro;let⟨t,rfl⟩:=ri;let⟨its,n,r,ho,hz⟩:=I.lst hp;let⟨h1,h2,h3,h4⟩:=FL hj;let hl:=⇑r;let hn:=nY;let I':Inv X pins U (upd H p (.lst (xs.set j v))) {s with heap:=s.heap.update p (Obj.mapSeq (·.setIfInBounds j u))}:=
  I.MV hp ho (Eo its n j u) (r.set rv j) (by rw[List.length_set];exact hz) s.toks
 by_cases h0:0<=k
 ·let hk:k.toNat=j:=by
   rw[seqIndex_of h0 h4] at h1;exact yb h1
  exact PySem.W.ki_setAt ho h0 () (by rw[zU,<-hl];exact h4) (by rw[hk];exact{_,I',q})
 ·let hk:(k+(its.toArray.size:Int)).toNat=j:=by
   rw[seqIndex_neg () h3] at h1;rw[zU,<-hl];exact yb h1
  exact PySem.W.ki_setBack ho () (by rw[zU,<-hl];exact h3) () (by rw[hk];exact{_,I',q})
def vU (lo hi:Option Int) (n:Nat):(sliceBounds lo hi none n).1=((HT.c0 n 0 lo:Nat):Int)/\(sliceBounds lo hi none n).2.1=((HT.c0 n n hi:Nat):Int)/\(sliceBounds lo hi none n).2.2=1:=by
 refine{?_,?_,rfl}
 ·cases lo with
  | none=>simp[sliceBounds,HT.c0]
  | some i=>
   simp only[sliceBounds,HT.c0,Option.getD_none,show(1:Int)>0 by decide,wB]
   by_cases h:i<0
   ·simp only[h,wB] <;> ext
   ·simp only[h,xS] <;> ext
 ·cases hi with
  | none=>simp[sliceBounds,HT.c0]
  | some i=>
   simp only[sliceBounds,HT.c0,Option.getD_none,show(1:Int)>0 by decide,wB]
   by_cases h:i<0
   ·simp only[h,wB] <;> ext
   ·simp only[h,xS] <;> ext
def sJ (its:List wM) (lo hi:Option Int):slicePick its.toArray lo hi none=((its.drop (HT.c0 ⇑its 0 lo)).take (HT.c0 ⇑its ⇑its hi-HT.c0 ⇑its 0 lo)).toArray:=by
 let⟨h1,h2,h3⟩:=vU lo hi its.toArray.size;unfold slicePick;rw[h1,h2,h3];simp only[sliceRange_one,pick_run,zU] <;> rfl
def Oi (K:yr):V->Option Int->Option Int->Hp->VK->Prop:=λx lo hi H Q=>∃a xs,x=.ref a/\aD K H a xs/\∀p,H p=none->Q (.ref p) (upd H p (.lst (gm xs lo hi)))
def cB:JS X (Oi X.K):=by
 intro pins s U H x v vl vu lo hi sl Q I rx hs pl pu h;let⟨a,xs,rfl,hx,q⟩:=h;cases rx;let⟨its,r,ht,hz⟩:=I.list hx;let hlen:=⇑r;refine{"list",_,slot_list_getitem.lookup,ht.isList.typeIs,?_};refine wpAny_getItem_list_slice ht.isList hs pl pu .none (by simp) ?_ (by rw[zU] <;> ext);rw[sJ,<-hlen];refine{.ref ↑s,_,I.laid (t':=s.toks) (o:=.lst (gm xs lo hi)) (λb ob q=>yk _ q) (zh _) ?_,rfl,q _ (I.aT.fresh (zh _))};exact{zJ (oV xs lo hi) hz,_,0,(r.drop (HT.c0 ⇑xs 0 lo)).take (HT.c0 ⇑xs ⇑xs hi-HT.c0 ⇑xs 0 lo),yn _ rfl}
def kh:V->Bool
 | .aU=>true
 | .bl _=>true
 | .int _=>true
 | .str _=>true
 | _=>false
def GX:V->V->Bool
 | .aU,.aU=>true
 | .bl a,.bl b=>a == b
 | .bl a,.int b=>(if a then 1 else 0) == b
 | .int a,.bl b=>a == (if b then 1 else 0)
 | .int a,.int b=>a == b
 | .str a,.str b=>a == b
 | _,_=>false
def JB (ry:RelV y u) (rx:RelV x v) (fy:kh y=true) (fx:kh x=true):SeqAt.EqAt A s u v (GX y x):=by
 cases y with
 | aU=>
  cases ry;cases x with
  | aU=>cases rx;exact SeqAt.EqAt.same _
  | bl b=>cases rx;exact SeqAt.EqAt.none_bool b
  | int b=>let⟨t,rfl⟩:=rx;exact SeqAt.EqAt.none_int b t
  | str b=>let⟨t,rfl⟩:=rx;exact SeqAt.EqAt.none_str b t
  | _=>exact absurd (show false=true from fx) zI
 | bl a=>
  cases ry;cases x with
  | aU=>cases rx;exact SeqAt.EqAt.bool_none a
  | bl b=>cases rx;exact SeqAt.EqAt.bool_bool a b
  | int b=>let⟨t,rfl⟩:=rx;exact SeqAt.EqAt.bool_int a b t
  | str b=>let⟨t,rfl⟩:=rx;exact SeqAt.EqAt.bool_str a b t
  | _=>exact absurd (show false=true from fx) zI
 | int a=>
  let⟨t',rfl⟩:=ry;cases x with
  | aU=>cases rx;exact SeqAt.EqAt.int_none a t'
  | bl b=>cases rx;exact SeqAt.EqAt.int_bool a t' b
  | int b=>let⟨t,rfl⟩:=rx;exact SeqAt.EqAt.int_int a t' b t
  | str b=>let⟨t,rfl⟩:=rx;exact SeqAt.EqAt.int_str a t' b t
  | _=>exact absurd (show false=true from fx) zI
 | str a=>
  let⟨t',rfl⟩:=ry;cases x with
  | aU=>cases rx;exact SeqAt.EqAt.str_none a t'
  | bl b=>cases rx;exact SeqAt.EqAt.str_bool a t' b
  | int b=>let⟨t,rfl⟩:=rx;exact SeqAt.EqAt.str_int a t' b t
  | str b=>let⟨t,rfl⟩:=rx;exact SeqAt.EqAt.str_str a t' b t
  | _=>exact absurd (show false=true from fx) zI
 | _=>exact absurd (show false=true from fy) zI
def EB (x:V) (u:wM):Bool:=match u with
 | .none=>GX .aU x
 | .bool b=>GX (.bl b) x
 | .int i _=>GX (.int i) x
 | .str z _=>GX (.str z) x
 | _=>false
def JA (r:RelV y u) (f:kh y=true):EB x u=GX y x:=by
 cases y with
 | aU=>cases r;rfl
 | bl b=>cases r;rfl
 | int i=>let⟨t,rfl⟩:=r;rfl
 | str z=>let⟨t,rfl⟩:=r;rfl
 | _=>exact absurd (show false=true from f) zI
theorem m8:∀{xs:List V} {us:List wM},Vals xs us->xs.all kh=true->us.any (EB x)=xs.any λy=>GX y x
 | _,_,.nil,_=>rfl
 | y::xs,u::us,.cons r t,f=>by
  rw[wq,zL] at f;rw[y9,y9,JA r f.1,m8 t f.2]
theorem j5 (rx:RelV x v) (fx:kh x=true):∀{xs:List V} {us:List wM},Vals xs us->xs.all kh=true->∀u∈us,SeqAt.EqAt A s u v (EB x u)
 | _,_,.nil,_=>λu hu=>by cases hu
 | y::xs,u::us,.cons r t,f=>λu' hu=>by
  rw[wq,zL] at f;rcases zA.mp hu with rfl | hu
  ·rw[JA r f.1];exact JB r rx f.1 fx
  ·exact j5 rx fx t f.2 u' hu
def Hq (x:V) (xs:List V):Bool:=xs.any λy=>GX y x
inductive Pc (K:yr) (neg:Bool) (x y:V) (H:Hp) (Q:VK):Prop
 | mk (p:wV) (xs:List V) (_:y=.ref p) (_:aD K H p xs\/cx K H p xs) (_:kh x=true) (_:xs.all kh=true) (_:Q (.bl (if neg then !Hq x xs else Hq x xs)) H)
def uN:ng X (compareOp .In) (Pc X.K false):=by
 intro pins s U H x y v u Q I rx ry h;let⟨p,xs,rfl,hq,fx,fs,q⟩:=h;cases ry;rcases hq with hq | hq
 ·let⟨its,r,pl,hz⟩:=I.list hq
  refine SeqAt.in_listAt (EB x) pl.isList (λw hw=>j5 rx fx r fs w (by simpa using hw)) {.bl _,H,I,rfl,?_};rw[show its.toArray.any (EB x)=its.any (EB x) by simp,m8 r fs];exact q
 ·let⟨its,r,pl,hz⟩:=I.tuple hq
  refine SeqAt.in_tupleAt (EB x) pl (λw hw=>j5 rx fx r fs w (by simpa using hw)) {.bl _,H,I,rfl,?_};rw[show its.toArray.any (EB x)=its.any (EB x) by simp,m8 r fs];exact q
def d4:ng X (compareOp .NotIn) (Pc X.K true):=by
 intro pins s U H x y v u Q I rx ry h;let⟨p,xs,rfl,hq,fx,fs,q⟩:=h;cases ry;rcases hq with hq | hq
 ·let⟨its,r,pl,hz⟩:=I.list hq
  refine SeqAt.notIn_listAt (EB x) pl.isList (λw hw=>j5 rx fx r fs w (by simpa using hw)) {.bl _,H,I,rfl,?_};rw[show its.toArray.any (EB x)=its.any (EB x) by simp,m8 r fs];exact q
 ·let⟨its,r,pl,hz⟩:=I.tuple hq
  refine SeqAt.notIn_tupleAt (EB x) pl (λw hw=>j5 rx fx r fs w (by simpa using hw)) {.bl _,H,I,rfl,?_};rw[show its.toArray.any (EB x)=its.any (EB x) by simp,m8 r fs];exact q
def aq:cZ X (.builtin "len") (λxs H Q=>∃p ys,xs=[.ref p]/\(aD X.K H p ys\/cx X.K H p ys)/\Q (.int ⇑ys) H):=by
 intro pins s U H xs us Q I r h;let⟨p,ys,rfl,hq,q⟩:=h;let⟨u,rfl,rx⟩:=vals1 r;cases rx;let hn:=nY;rcases hq with hq | hq
 ·let⟨its,r',pl,hz⟩:=I.list hq
  let hlen:=⇑r';exact Calls.call_len_list pl.isList (by simp only[zU] <;> ext) {.int ⇑ys,H,I.tok _,{s.toks+1,by rw[zU,hlen]},q}
 ·let⟨its,r',pl,hz⟩:=I.tuple hq
  let hlen:=⇑r';exact len_tuple pl (by simp only[zU] <;> ext) {.int ⇑ys,H,I.tok _,{s.toks+1,by rw[zU,hlen]},q}
def eA:cZ X (.builtin "len") (λxs H Q=>∃z,xs=[.str z]/\⇑z<=sizeLine/\Q (.int ⇑z) H):=by
 intro pins s U H xs us Q I r h;let⟨z,rfl,hz,q⟩:=h;let⟨u,rfl,t,rfl⟩:=vals1 r;let hn:=nY;exact len_str () {.int ⇑z,H,I.tok _,{_,rfl},q}
def A2:cZ X (.type "list") (λxs H Q=>∃p ys,xs=[.ref p]/\(aD X.K H p ys\/cx X.K H p ys)/\∀l,H l=none->Q (.ref l) (upd H l (.lst ys))):=by
 intro pins s U H xs us Q I r h;let⟨p,ys,rfl,hq,q⟩:=h;let⟨u,rfl,rx⟩:=vals1 r;cases rx;let fin:∀(its:List wM),Vals ys its->⇑ys<=sizeLine->∀(h':wW) (c':Nat),(∀b o',s.heap.get? b=some o'->h'.get? b=some o')->
   h'.get? ↑s=some {cls:=.type "list",dict:=none,data:=.seq its.toArray c',slots:=#[]}->EP X pins U Q (.ref ↑s) {s with heap:=h'}:=λits r' hz h' c' kp e=>
  {.ref ↑s,_,I.laid (t':=s.toks) kp (zh _) (show aW X.prog X.w _ h' _ (.lst ys) from{(hz),its,c',r',e}),rfl,q _ (I.aT.fresh (zh _))}
 rcases hq with hq | hq
 ·let⟨its,r',pl,hz⟩:=I.list hq
  let hlen:=⇑r';let⟨o,ho,hc,n,hd⟩:=pl.isList;exact call_list_seq p (.inl rfl) ho hc hd (λh' c' kp e=>fin its r' hz h' c' kp e) (by simp only[zU] <;> ext)
 ·let⟨its,r',pl,hz⟩:=I.tuple hq
  let hlen:=⇑r';let⟨o,ho,hc,n,hd⟩:=pl;exact call_list_seq p (.inr rfl) ho hc hd (λh' c' kp e=>fin its r' hz h' c' kp e) (by simp only[zU] <;> ext)
def eV:cZ X (.type "tuple") (λxs H Q=>∃p ys,xs=[.ref p]/\((aD X.K H p ys/\∀l,H l=none->Q (.ref l) (upd H l (.tup ys)))\/(cx X.K H p ys/\Q (.ref p) H))):=by
 intro pins s U H xs us Q I r h;let⟨p,ys,rfl,h⟩:=h;let⟨u,rfl,rx⟩:=vals1 r;cases rx;rcases h with⟨hq,q⟩ | ⟨hq,q⟩
 ·let⟨its,r',pl,hz⟩:=I.list hq
  let hlen:=⇑r';refine call_tuple_list pl.isList (λh' kp=>?_) (by simp only[zU] <;> ext);let I1:Inv X pins U H {s with heap:=h'}:=I.kept (t':=s.toks) kp;let I2:Inv X pins U (upd H h'.objs.size (.tup ys)) {s with heap:=h'.push {cls:=.type "tuple",data:=.seq its.toArray}}:=
   I1.laid (t':=s.toks) (λb o e=>yk _ e) (zh _) (show aW X.prog X.w _ _ _ (.tup ys) from{hz,its,r',IsTup.new _ _})
  exact{.ref h'.objs.size,_,I2,rfl,q _ (I1.aT.fresh (zh _))}
 ·let⟨its,r',pl,hz⟩:=I.tuple hq
  exact call_tuple_same pl {.ref p,H,I,rfl,q}
def PV (K:yr) (T:String) (x:V) (H:Hp):Prop:=match x with
 | .str _=>T ="str"
 | .int _=>T ="int"
 | .ref p=>(T ="list"/\∃xs,aD K H p xs)\/(T ="tuple"/\∃o,K.lookup p=some o/\o.cls=.type "tuple"/\o.dict=none)\/
   (T ="dict"/\((∃kvs,H p=some (.dK kvs))\/∃kvs,H p=some (.dT kvs)))\/(T ="set"/\∃S n,H p=some (.set S n))
 | _=>False
def Md (I:Inv X pins U H s) (r:RelV x v) (ty:PV X.K T x H) :
  s.TypeIs v T/\∀a,v=.ref a->∃ob,s.heap.get? a=some ob/\ob.dict=none:=by
 cases x with
 | str z=>
  let⟨t,rfl⟩:=r;cases(show T ="str" from ty);exact{wk s z t,λ_ e=>nomatch e}
 | int i=>
  let⟨t,rfl⟩:=r;cases(show T ="int" from ty);exact{typeIs_int s i t,λ_ e=>nomatch e}
 | ref p=>
  cases r;rcases ty with⟨rfl,xs,hq⟩ | ⟨rfl,o,hk,hc,hd⟩ | ⟨rfl,hk⟩ | ⟨rfl,S,n,hk⟩
  ·let⟨its,_,pl,_⟩:=I.list hq
   refine{pl.isList.typeIs,λa e=>?_};cases e;let⟨o,n,e,c,hd,_⟩:=pl;exact{(o),e,hd}
  ·refine{{o,I.ie p o hk,hc},λa e=>?_}
   cases e;exact{o,I.ie _ o hk,hd}
  ·let z:∃o,s.heap.get? p=some o/\o.ExactDict:=by
    rcases hk with⟨kvs,hk⟩ | ⟨kvs,hk⟩
    ·let⟨_,_,_,_,o,_,_,e,ex,_⟩:=I.aT p _ hk
     exact{(o),e,ex}
    ·let⟨_,_,_,_,o,_,_,e,ex,_⟩:=I.aT p _ hk
     exact{(o),e,ex}
   let⟨o,e,ex⟩:=z;refine{{(o),e,ex.1},λa e2=>?_};cases e2;exact{(o),e,ex.2.1}
  ·let⟨o,_,_,_,e,ex,_⟩:=I.aT p _ hk
   refine{{(o),e,ex.1},λa e2=>?_};cases e2;exact{(o),e,ex.2.1}
 | _=>exact False.elim ty
def N9 (K:yr) (T:String) (r:V->List V->Hp->VK->Prop) (to:TE) (t:TA):TE:=λU H Q=>to U H λx H1=>PV K T x H1/\t U H1 λxs H2=>r x xs H2 Q
variable {o e:Expr} {es:List Expr} {to:TE} {t:TA} {name:Str} {apos cpos:Pos} {T id:String} {r:V->List V->Hp->VK->Prop}
def cV (pa:PlainAttrs T) (slot:Slot T name id) (hty:typeOf (.builtin id)=pure (.type "method_descriptor")) (hm:QY X id r) (ho:PE X o to) (ha:PA X (e::es) t)
  (hbase:attributeBase o name X.env (eval o X.env)=eval o X.env<|>qe_)
  (hfew:((backTo cpos (starEach (e::es) X.env)).all (λx=>!x.1)&&(backToKw cpos (keywordEach [] X.env)).all (λx=>x.1.isSome)
   &&decide (⇑(e::es)+⇑([]:List Keyword)+(if([]:List Keyword).isEmpty then 0 else 1)<30))=true<|>qe_)
  (hline:(apos.endLine == cpos.line)=true<|>qe_) (hs:starEach (e::es) X.env=(false,eval e X.env)::starEach es X.env<|>qe_) (hplain:(backTo cpos (starEach es X.env)).any (·.1)=false<|>qe_) :
  PE X (.Call (.Attribute o name apos) (e::es) [] cpos) (N9 X.K T r to t):=by
 intro pins s U H Q I h;refine wpAny_Call_method_late hbase hfew hline rfl (bR (ho pins s U H _ I h) λv s1 zz=>?_);let⟨x,H1,I1,r1,ty,q1⟩:=zz;let⟨h1,h2⟩:=Md I1 r1 ty;refine{T,id,pa,slot,hty,h1,h2,?_};let hA:=ha cpos pins s1 U H1 _ I1 q1;rw[hs] at hA ⊢;refine wg (by show(false||(backTo cpos (starEach es X.env)).any (·.1))=false;rw[hplain] <;> rfl) (Calls.evalArgs_plain ?_);exact bR hA λus s2 ⟨vs,H2,I2,r2,q2⟩=>hm pins s2 U H2 x vs v us Q I2 r1 r2 q2
end
end L2
namespace L2
open PySem PySem.Spec PyProof.Rows
def NC (X:Cx) (id:String) (r:V->List V->Hp->VK->Prop):Prop:=
 ∀(pins:List (wV×Obj)) (s:wN) (U:St) (H:Hp) (x:V) (xs:List V) (v:wM) (us:List wM) (Q:VK),Inv X pins U H s->RelV x v->Vals xs us->r x xs H Q->
  wpAny (model X.prog X.w) X.A (call (.builtin id) (v::us)) (EP X pins U Q) X.xe s
theorem Vals.one:∀{x:V} {us:List wM},Vals [x] us->∃u,us=[u]/\RelV x u
 | _,_,.cons r .nil=>{_,rfl,r}
section
variable {X:Cx} {pins:List (wV×Obj)} {U:St} {H:Hp} {s:wN} {l b:wV} {xs ys zs:List V}
def Inv.MW {its its':List wM} {n:Nat} {f:Array wM->Array wM} {t':Nat} (I:Inv X pins U H s) (hH:H l=some (.lst xs))
  (e:s.heap.get? l=some {cls:=.type "list",data:=.seq its.toArray n}) (hf:f its.toArray=its'.toArray) (hv:Vals ys its') (hz:⇑ys<=sizeLine) :
  Inv X pins U (upd H l (.lst ys)) {s with heap:=s.heap.update l (Obj.mapSeq f),toks:=t'}:=by
 let q:=PySem.IsL.update e f;rw[hf] at q;refine I.write (x:=l) (e:=l) (by rw[hH];exact trivial) (.inl rfl) (λb' u hb hu=>(yp s.heap (Obj.mapSeq f) (Ne.symm hb)).trans hu) {_,q} ?_;exact{hz,its',_,hv,q}
def Inv.OE (I:Inv X pins U H s) (hv:Vals ys its) (hz:⇑ys<=sizeLine) :
  Inv X pins U (upd H ↑s (.lst ys)) {s with heap:=s.heap.push {cls:=.type "list",data:=.seq its.toArray},toks:=t'}:=
 I.laid (λ_ _ q=>yk _ q) (zh _) {hz,its,0,hv,yn _ rfl}
theorem Inv.fresh (I:Inv X pins U H s):H ↑s=none:=I.aT.fresh (zh _)
def Inv.KP (I:Inv X pins U H s) (hH:H l=some (.lst xs)):⇑xs<=sizeLine/\∃(its:List wM) (n:Nat),Vals xs its/\⇑xs=⇑its/\s.heap.get? l=some {cls:=.type "list",data:=.seq its.toArray n}:=by
 let⟨z,its,n,r,e⟩:=I.aT l _ hH;exact{(z),its,n,r,⇑r,e}
def Cr (h:n<=sizeLine):Builtin.List.listTooLong n=false:=by
 unfold Builtin.List.listTooLong;exact zc ()
end
section
variable {X:Cx}
inductive Fx (x:V) (vs:List V) (H:Hp) (Q:VK):Prop
 | mk (l:wV) (xs:List V) (y:V) (_:x=.ref l) (_:vs=[y]) (_:H l=some (.lst xs)) (_:⇑xs<sizeLine) (_:Q .aU (upd H l (.lst (xs++[y]))))
def eK:NC X "list.append" Fx:=by
 intro pins s U H x vs v us Q I rx rv h;let⟨l,xs,y,rfl,rfl,hH,hz,q⟩:=h;cases rx;let⟨u,rfl,ru⟩:=rv.one;let⟨z,its,n,r,hl,e⟩:=I.KP hH;refine xW F.slot_list_append {_,e,rfl} F.entry_list_append (F.args_list_append_2 _ _) (PySem.list_append l its.toArray n u (by rw[zU];ext)) {e,?_};refine{.aU,_,I.MW (its':=its++[u]) hH e (by simp) (r.append (.cons ru .nil)) ?_,rfl,q};rw[ze,List.length_singleton];ext
inductive Fw (x:V) (vs:List V) (H:Hp) (Q:VK):Prop
 | mk (l b:wV) (xs zs:List V) (_:x=.ref l) (_:vs=[.ref b]) (_:H l=some (.lst xs)) (_:H b=some (.lst zs)) (_:⇑xs+⇑zs<=sizeLine) (_:Q .aU (upd H l (.lst (xs++zs))))
def GL:NC X "list.extend" Fw:=by
 intro pins s U H x vs v us Q I rx rv h;let⟨l,b,xs,zs,rfl,rfl,hH,hB,hz,q⟩:=h;cases rx;let⟨u,rfl,ru⟩:=rv.one;cases ru;let⟨z,its,n,r,hl,e⟩:=I.KP hH;let⟨z2,its2,n2,r2,hl2,e2⟩:=I.KP hB;let hsz:its.toArray.size+its2.toArray.size<=sizeLine:=by rw[zU,zU];ext
 let hlong:¬(!its.toArray.isEmpty&&Builtin.List.listTooLong (its.toArray.size+its2.toArray.size))=true:=by
  rw[Cr hsz,wa];exact zI
 refine xW F.slot_list_extend {_,e,rfl} F.entry_list_extend (F.args_list_extend_2 _ _)
  (AutoSeq1.list_extend_list_list_0 l its.toArray n b its2.toArray n2 hlong (by rw[zU];ext) ()) {e,e2,?_}
 refine{.aU,_,I.MW (its':=its++its2) hH e (by simp) (r.append r2) ?_,rfl,q};rw[ze];ext
end
section
variable {prog:wO} {w:wQ} {A:wR} {E:wM->wN->Prop} {s:wN}
end
section
variable {X:Cx}
end
end L2
namespace QH
open PySem PySem.W PySem.Calls PyProof.Rows
def pA:∀(ns:List Int) (vs:List wM),WellAll P h vs (ns.map WData.int)->IntsAre vs ns:=by
 intro ns
 induction ns with
 | nil=>
  intro vs w;rw[yd] at w;cases w;exact .nil
 | cons n ns ih=>
  intro vs w;rw[zf] at w;cases w with
  | cons a b=>
   cases a;exact .cons _ _ (ih _ b)
def Gr {l:OpenLaw} {n:Nat} (hn:l.most=some n) {P:Params} {h:wW} {args:List WData} {vals:List wM}
  (hpre:l.row.toRowW.claim.pre args=true) (hwl:WellAll P h vals args) :
  ∃a vs ns,vals=[Value.ref a]/\args=[WData.list (ns.map WData.int)]/\h.get? a=some {cls:=.type "list",data:=.seq vs.toArray}/\IntsAre vs ns/\⇑ns<=n:=by
 let hsh:WShape.hasAll [] args [.list .int]=true:=(pre_splitW hpre).1;let hc:l.pre.holds [] {args:=args}=true:=(pre_splitW hpre).2;let⟨d,r,rfl,h1,h2⟩:=hasAllW_cons hsh;obtain rfl:=hasAllW_nil h2;let⟨xs,rfl,h3⟩:=hasW_list h1;let⟨ns,rfl⟩:=items_int h3;let hlen:⇑ns<=n:=by
  unfold OpenLaw.pre at hc;let h4:(WTm.not (.lt (.lit (.int (n:Int))) (.len (.arg 0)))).holds [] {args:=[.list (ns.map .int)]}=true:=by
   let h4:=(holds_andW hc).1;rw[hn] at h4;exact h4
  let h5:=condW_of h4 (w_not (w_lt w_lit (w_len_list (w_arg rfl))));rw[za] at h5;refine Nat.le_of_not_lt λq=>?_;let q':(n:Int)<((⇑ns:Nat):Int):=()
  first
   | (rw[zd q'] at h5;exact absurd h5 ∅)
   | (simp at h5;ext)
 cases hwl with
 | cons w1 w2=>
  cases w2;cases w1 with
  | list ho hall=>exact{_,_,ns,rfl,rfl,ho,pA ns _ hall,hlen}
def GC (l:OpenLaw) (args:List WData):l.row.toRowW.claim.post args (.bool true) args=true:=
 postW_of (r:=l.row.toRowW) (X:=(true == true))
  (show WShape.has [] (.bool true) .bool=true by first | rfl | decide | simp[WShape.has,WShape.arms,WShape.armsAll])
  (show(WTm.eq .res (.lit (.bool true))).value [] {args:=args,res:=some (.bool true),after:=args}=some (.bool (true == true)) from w_eq_bool (w_res rfl) w_lit) rfl
def Dh {l:OpenLaw} {n:Nat} {q:wO} {loose:List Str} {XP:(Str->Option wM)->wW->Prop} {YP:wQ->wW->Prop} {d:DefRec}
  (hn:l.most=some n) (hdf:d.params.defaults=[])
  (call:∀(w:wQ) (s₀ s₁:wN) (mg mb:Str->Option wM) (fa:wV) (o:Obj) (pm cd doc:wM) (a:wV) (vs:List wM) (ns:List Int),
   Ground q loose [] XP w s₀ mg mb s₁.heap->YP w s₁.heap->
   s₁.heap.get? fa=some o->o.data=.func (docDef d.name d.params d.body d.scope pm cd doc)->s₁.heap.CodeRec cd d.name->mg d.name=some (.ref fa)->
   s₁.heap.get? a=some {cls:=.type "list",data:=.seq vs.toArray}->IntsAre vs ns->⇑ns<=n->s₁.gens=#[]->
   codeAny (model l.prog w) callerA (.call (.ref fa) {[.ref a],[]}) (λr s'=>r=.ok (.ret (.bool true))/\OldK s₁.heap s'.heap/\s'.os=s₁.os/\AllBare s'.gens) s₁) :
  WalkO q loose XP YP l.row.toRowW d [] (λf vs=>PySem.call f vs):=by
 intro w s₀ s₁ mg mb G Y fa o pm cd doc dV kV ho hd hcd hD hmg hg args vals as hpre hlay hrd hwl hlo;obtain rfl:dV=.none:=Dflts.none hD hdf;obtain rfl:kV=.none:=Dflts.noKw hD;let⟨a,vs,ns,rfl,rfl,hobj,hints,hlen⟩:=Gr hn hpre hwl;refine enter_call (xA (call w s₀ s₁ mg mb fa o pm cd doc a vs ns G Y ho (fd_plain hd) hcd hmg hobj hints hlen hg) λr s' hq=>?_);let⟨rfl,h2,h3,h4⟩:=hq;exact{.inl {.bool true,.bool true,[],rfl,λ_=>rfl,.bool true,GC l _,λ_=>{List.Pairwise.nil,λ_ hm=>(nomatch hm)}},h2,h3,h4}
section
variable {prog:wO} {w:wQ} {A:wR} {E:wM->wN->Prop} {s:wN} {K:Frag}
end
end QH
namespace L2
open PySem PySem.Spec PyProof.Rows
theorem uy:∀{vs:List wM} {ns:List Int},IntsAre vs ns->Vals (ns.map V.int) vs
 | _,_,.nil=>.nil
 | _,_,.cons n t h=>.cons {(t),rfl} (uy h)
def Nz (H:Hp):Prop:=∀b,H b=none\/∃o xs,H b=some (.jF o (.lst xs))
def Ja {P:wO} {w:wQ} {K:yr} {mg mb:Str->Option wM} {CX:DC} {k:Nat} {fa a:wV} {fd:wU} {x:Str} {sp:Sp} {s₁:wN} {vs:List wM} {ns:List Int}
  (KX:K.In s₁.heap) (hns:s₁.heap.Ns mainGlobals mg) (hb:s₁.heap.Ns builtinsNs mb) (hbb:∀x:Str,x≠ "__name__"->mb x=bootBuiltins x) (hlim:s₁.heap.NoLimit) (hg:s₁.gens=#[])
  (ha:s₁.heap.get? a=some {cls:=.type "list",data:=.seq vs.toArray}) (hi:IntsAre vs ns) (hl:⇑ns<=sizeLine) (hr:df k callerA)
  (F:∀base:wW,K.In base->base.Ns mainGlobals mg->bL P w K mg base CX k fa fd [x] sp) (hbind:∀(s:wN) (u:wM),BindsTo s fd {[u],[]} [(x,u)])
  (hsp:∀H:Hp,Nz H->aD K H a (ns.map V.int)->sp [.ref a] H (λv _=>v=.bl true) λ_ _ _=>False)
  (hCX:∀H e s',CX [] H s₁ (λ_ _ _=>False) e s'->False) :
  codeAny (model P w) callerA (.call (.ref fa) {[.ref a],[]}) (λr s'=>r=.ok (.ret (.bool true))/\OldK s₁.heap s'.heap/\s'.os=s₁.os/\AllBare s'.gens) s₁:=by
 let rv:=uy hi;let lenV:=⇑hi;let core:∀H:Hp,Nz H->aD K H a (ns.map V.int)->kQ P w H s₁.heap->(∀b,H b≠none->b=a)->(H a≠none->K.lookup a=none)->
   codeAny (model P w) callerA (.call (.ref fa) {[.ref a],[]}) (λr s'=>r=.ok (.ret (.bool true))/\OldK s₁.heap s'.heap/\s'.os=s₁.os/\AllBare s'.gens) s₁:=by
  intro H hO hS aT hA hK;let base_of:∀{b:wV} {o:Obj},s₁.heap.get? b=some o->H b=none->(AF s₁.heap H).get? b=some o:=λe n=>Jm e n;let noA:∀{b:wV} {o:Obj} {es:Array DictEntry} {ep:Nat},s₁.heap.get? b=some o->o.data=.dict es ep->H b=none:=λ{b o es ep} e d=>by
   cases q:H b with
   | none=>rfl
   | some u=>
    let e':b=a:=hA b (by rw[q];simp);subst e';rw[ha] at e;cases e;let d':Data.seq vs.toArray _=Data.dict es ep:=d;cases d'
  let nsK:∀{b:wV} {m:Str->Option wM},s₁.heap.Ns b m->(AF s₁.heap H).Ns b m:=λ{b m} ⟨o,es,ep,e,d,r⟩=>{o,es,ep,base_of e (noA e d),d,r}
  let hKb:K.In (AF s₁.heap H):=λb o e=>base_of (KX b o e) (by
   cases q:H b with
   | none=>rfl
   | some u=>
    let e':b=a:=hA b (by rw[q];simp);subst e';rw[hK (by rw[q];simp)] at e;cases e)
  let hM:Mod K mg (AF s₁.heap H):={hKb,nsK hns,{mb,nsK hb,hbb},let ⟨mc,h1,h2⟩:=hlim;{mc,nsK h1,h2}}
  let e0:DA P w K mg (AF s₁.heap H) callerA [] s₁ H:={rfl,hM,λb o e=>KJ e,Nat.le_of_eq (GR _ _),trivial,λb hb=>absurd (show b∈([]:List wV) from hb) (by simp),aT,.of_eq hg}
  refine xA ((F _ hKb (nsK hns)).run callerA [] s₁ H {[.ref a],[]} [.ref a] [.ref a] _ _ hr e0 (hbind s₁ (.ref a)) (.cons rfl .nil) (hsp H hO hS)) λr s' h=>?_;cases r with
  | error e=>exact(hCX H e s' h).elim
  | ok fl=>
   cases fl with
   | next=>exact False.elim h
   | brk=>exact False.elim h
   | cont=>exact False.elim h
   | ret u=>
    let⟨v,H',os,bare,un,hok',r',q⟩:=h;let q':v=.bl true:=q;subst q';obtain rfl:u=Value.bool true:=r';refine{rfl,OldK.of_keep λb o e=>?_,os,bare};cases q:H b with
    | none=>exact un.keep b o e q (by intro z;exact absurd (show b∈([]:List wV) from z) (by simp)) (by simp)
    | some u=>
     rcases hO b with z | ⟨ob,xs,z⟩
     ·rw[q] at z;cases z
     ·let z2:=un.iE b ob _ z
      let⟨e1,_⟩:=aT b _ z;let⟨e2,_⟩:=hok' b _ z2;rw[e] at e1;cases e1;exact e2
 cases hk:K.lookup a with
 | some o=>
  let e:=KX a o hk;rw[ha] at e;cases e;refine core (λ_=>none) (λ_=>.inl rfl) (.inr {_,vs.toArray,_,hk,rfl,rfl,rfl,by rw[zU,lenV];exact hl,by simpa using rv}) (λb u z=>by let z':(none:Option HO)=some u:=z;cases z') (λb z=>absurd rfl z) λz=>absurd rfl z
 | none=>
  refine core (λb=>if b=a then some (.jF {cls:=.type "list",data:=.seq vs.toArray} (.lst (ns.map V.int))) else none) (λb=>?_) (.inl (.inr {{cls:=.type "list",data:=.seq vs.toArray},yF rfl})) (λb u z=>?_) (λb z=>?_) λ_=>hk
  ·by_cases hb:b=a
   ·exact .inr {_,_,yF hb}
   ·exact .inl (yE hb)
  ·by_cases hb:b=a
   ·let z':=(yF hb).symm.trans z
    cases z';subst hb;exact{ha,by rw[za];exact hl,vs,_,rv,ha}
   ·let z':=(yE hb).symm.trans z
    cases z'
  ·by_cases hb:b=a
   ·exact hb
   ·exact absurd (yE hb) z
end L2
namespace L2
open PySem PySem.Spec PyProof.Rows
def J8 {l:PySem.W.OpenLaw} {n k:Nat} {q:wO} {loose:List Str} {XP:(Str->Option wM)->wW->Prop} {YP:wQ->wW->Prop} {d:DefRec} {K:Params->yr} {CX:wQ->DC} {sp:wQ->Sp} {x:Str}
  (hn:l.most=some n) (hn2:n<=sizeLine) (hdf:d.params.defaults=[]) (hr:df k callerA)
  (hY:∀(w:wQ) (h:wW),YP w h->(K w.params).In h)
  (F:∀(w:wQ) (mg:Str->Option wM) (fa:wV) (h:wW),(K w.params).In h->h.Ns mainGlobals mg->mg d.name=some (.ref fa)->
   ∃fd:wU,(∀(s:wN) (u:wM),BindsTo s fd {[u],[]} [(x,u)])/\
    ∀base:wW,(K w.params).In base->base.Ns mainGlobals mg->bL l.prog w (K w.params) mg base (CX w) k fa fd [x] (sp w))
  (hsp:∀(w:wQ) (H:Hp) (a:wV) (ns:List Int),⇑ns<=n->Nz H->aD (K w.params) H a (ns.map V.int)->sp w [.ref a] H (λv _=>v=.bl true) λ_ _ _=>False)
  (hCX:∀(w:wQ) (H:Hp) (s:wN) (e:wM) (s':wN),CX w [] H s (λ_ _ _=>False) e s'->False) :
  PySem.W.WalkO q loose XP YP l.row.toRowW d [] (λf vs=>PySem.call f vs):=by
 refine QH.Dh hn hdf λw s₀ s₁ mg mb fa o pm cd doc a vs ns G Y ho hd hcd hmg hobj hints hlen hg=>?_;let KX:=hY w _ Y;let⟨fd,hb,hF⟩:=F w mg fa _ KX G.T.g hmg;exact Ja KX G.T.g G.T.b G.T.builtins G.T.nolimit hg hobj hints (zJ hlen hn2) hr hF hb (λH hO hS=>hsp w H a ns hlen hO hS) λH e s'=>hCX w H s₁ e s'
end L2
namespace L2
open PySem PySem.Spec PyProof.Rows
def inClass (s:Stmt) (j:Nat):Stmt:=match s with
 | .ClassDef _ _ _ body _ _ _ _ _ _ _=>body.getD j (.Pass {0,0,0,0})
 | _=>.Pass {0,0,0,0}
def bw (s:Stmt):Arguments:=match s with
 | .FunctionDef _ a _ _ _ _ _ _ _ _=>a
 | _=>{posonlyargs:=[],args:=[],vararg:=none,kwonlyargs:=[],kw_defaults:=[],kwarg:=none,defaults:=[]}
def aV (s:Stmt):List Stmt:=match s with
 | .FunctionDef _ _ b _ _ _ _ _ _ _=>b
 | _=>[]
def aC (s:Stmt):Scope:=match s with
 | .FunctionDef _ _ _ _ _ _ sc _ _ _=>sc
 | _=>{kind:=.function,names:=[],isGenerator:=false,isCoroutine:=false}
abbrev uq:DC:=λ_ _ _ _ _ _=>False
abbrev E0:XK:=λ_ _ _=>False
def uK:Passes uq X E0:=λ_ _ _ _ _ _ _ h=>h.elim
structure Hm (K:yr) (x qual:Str) (st:Stmt) (f:wV) (fd:wU):Prop where
 ex:∃(oc:wM) (od:Option wV) (kV doc pm:wM) (an:Option wV) (cdv ct:wM) (osl:Array (Option wM)),
  fd=PySem.W.fnOf x qual (bw st) (aV st) (aC st) .none kV doc pm an cdv ct/\K.lookup f=some {oc,od,.func fd,osl}/\PySem.W.codeIn K cdv qual=true
 kp:PySem.W.keepIn K (.ref f)=true
section
variable {P:wO} {w:wQ} {K:yr} {mg:Str->Option wM} {base:wW}
def Hm.ok {x qual:Str} {st:Stmt} {f:wV} {fd:wU} {N ps:List Str} {k:Nat} {sp:Sp} (F:Hm K x qual st f fd) (S:cQ N ps (aC st)) (len:∀vs H Q E,sp vs H Q E->⇑vs=⇑ps)
  (hbody:∀(cdv:wM) (A:wR) (outer:List Env) (s:wN) (H:Hp) (vs:List V) (Q:VK) (E:XK),df k (A.deeper (envOfC qual (aC st) ↑s f cdv))->sp vs H Q E->
   ∃t,uk (fq uq P w K mg base N qual (aC st) f cdv A outer s H E).Bt (aV st) t/\t {nx:=λ_ H'=>Q .aU H',rt:=Q} (start N vs) H):bL P w K mg base uq (k+1) f fd ps sp:=by
 let⟨oc,od,kV,doc,pm,an,cdv,ct,osl,rfl,lk,hcd⟩:=F.ex;refine Jt lk hcd S len λA outer s H vs Q E hr hsp=>?_;let⟨t,h,q⟩:=hbody cdv A outer s H vs Q E hr hsp;exact{(t),h.Bt,q}
def Hm.binds {x qual:Str} {st:Stmt} {f:wV} {fd:wU} {ps:List Str} (F:Hm K x qual st f fd)
  (h:∀(kV doc pm:wM) (an:Option wV) (cdv ct:wM) (us:List wM),⇑us=⇑ps->bindArgs (PySem.W.fnOf x qual (bw st) (aV st) (aC st) .none kV doc pm an cdv ct) {us,[]}=pure (ps.zip us)):Binds K fd ps []:=by
 let⟨oc,od,kV,doc,pm,an,cdv,ct,osl,rfl,lk,hcd⟩:=F.ex;exact .all (h kV doc pm an cdv ct)
def fo {x qual:Str} {st:Stmt} {f:wV} {oc:wM} {od an:Option wV} {osl:Array (Option wM)} {kV doc pm cdv ct:wM} (l:K.lookup f=some {oc,od,.func (PySem.W.fnOf x qual (bw st) (aV st) (aC st) .none kV doc pm an cdv ct),osl})
  (c:PySem.W.codeIn K cdv qual=true) (k:PySem.W.keepIn K (.ref f)=true):Hm K x qual st f (PySem.W.fnOf x qual (bw st) (aV st) (aC st) .none kV doc pm an cdv ct):={{(oc),od,kV,doc,pm,an,cdv,ct,osl,rfl,l,c},k}
end
def jw (hr:df k A):A.units+1<cLine:=Nat.lt_of_le_of_lt (Nat.add_le_add_left (by decide:1<=64) _) hr.units
section
variable {X:Cx}
def pv (i:Nat) (hN:X.N[i]?=some x<|>qe_) (hv:LW X.env.scope x<|>qf_) (hd:(x == ("__debug__": Str))=false<|>qb_)
  (hcd:(x == ("__classdict__": Str))=false<|>qb_):PE X (.Name x pos) (aK i):=MJ hN hv hd hcd
end
def OI {A B:Prop} (h:B):if false=true then A else B:=by
 rw[yE zI];exact h
def Qd {A B:Prop} (h:A):if true=true then A else B:=by
 rw[yF rfl];exact h
def pz {c A B:Prop} [Decidable c] (h1:c->A) (h2:¬c->B):if c then A else B:=by
 by_cases h:c
 ·rw[yF h]
  exact h1 h
 ·rw[yE h]
  exact h2 h
def LQ {c A B:Prop} [Decidable c] (hc:c) (h:B):if(!decide c)=true then A else B:=by
 rw[zd hc];exact OI h
def au (H H':Hp):Prop:=∀b o,H b=some o->H' b=some o
def au.refl (H:Hp):au H H:=λ_ _ h=>h
def au.trans (a:au H H1) (b:au H1 H2):au H H2:=λc o h=>b c o (a c o h)
def au.free {H H':Hp} (e:au H H') {l:wV} (h:H' l=Option.none):H l=Option.none:=by
 cases q:H l with
 | none=>rfl
 | some o=>
  rw[e l o q] at h;cases h
def au.seq {K:yr} {H H':Hp} {a:wV} {xs:List V} (e:au H H') (h:aD K H a xs):aD K H' a xs:=by
 rcases h with(h | ⟨o,h⟩) | h
 ·exact .inl (.inl (e _ _ h))
 ·exact .inl (.inr {o,e _ _ h})
 ·exact .inr h
end L2
namespace Lm
def red (t b:Int):Int×Int:=(t/(Int.gcd t b:Int),b/(Int.gcd t b:Int))
def pP {t b:Int} (hb:0<b):0<(Int.gcd t b:Int):=by
 have:0<Int.gcd t b:=Int.gcd_pos_of_ne_zero_right t ();ext
def w8 {t b k:Int} (hk:0<k) (hb:0<b):red (k*t) (k*b)=red t b:=by
 let g0:=pP (t:=t) hb;let e:(Int.gcd (k*t) (k*b):Int)=k*(Int.gcd t b:Int):=by
  rw[Int.gcd_mul_left];simp only[Int.natCast_mul];rw[Int.natAbs_of_nonneg ()]
 unfold red;rw[e,Int.mul_ediv_mul_of_pos _ _ hk,Int.mul_ediv_mul_of_pos _ _ hk]
def iS {t b:Int} (hb:0<b):∃g,0<g/\t=g*(red t b).1/\b=g*(red t b).2/\0<(red t b).2/\(red t b).2<=b:=by
 let g0:=pP (t:=t) hb;let d1:(Int.gcd t b:Int) ∣ t:=Int.gcd_dvd_left ..;let d2:(Int.gcd t b:Int) ∣ b:=Int.gcd_dvd_right ..;let e1:(Int.gcd t b:Int)*(t/(Int.gcd t b:Int))=t:=Int.mul_ediv_cancel' d1;let e2:(Int.gcd t b:Int)*(b/(Int.gcd t b:Int))=b:=Int.mul_ediv_cancel' d2;refine{_,g0,e1.symm,e2.symm,?_,?_}
 ·exact Int.ediv_pos_of_pos_of_dvd hb () d2
 ·exact Int.ediv_le_self _ ()
def Eb {t b:Int} (ht:0<=t):0<=(red t b).1:=zR ht (Int.natCast_nonneg _)
def qE {t b:Int} (ht:0<=t):(red t b).1<=t:=Int.ediv_le_self _ ht
def Ks {t b:Int} (hb:0<b):red (red t b).1 (red t b).2=red t b:=by
 let⟨g,g0,e1,e2,p,_⟩:=iS (t:=t) hb;let h:=w8 (t:=(red t b).1) (b:=(red t b).2) g0 p;rw[<-e1,<-e2] at h;exact h.symm
def add (x y:Int×Int):Int×Int:=red (x.1*y.2+y.1*x.2) (x.2*y.2)
def Lg {t b s c:Int} (hb:0<b) (hc:0<c):add (red t b) (red s c)=red (t*c+s*b) (b*c):=by
 let⟨g,g0,e1,e2,p,_⟩:=iS (t:=t) hb;let⟨k,k0,f1,f2,q,_⟩:=iS (t:=s) hc;unfold add;generalize hx:red t b=x at *;generalize hy:red s c=y at *;let h:=w8 (t:=x.1*y.2+y.1*x.2) (b:=x.2*y.2) (xh g0 k0) (xh p q);rw[<-h]
 congr 1
 ·rw[e1,e2,f1,f2,Int.mul_add]
  congr 1 <;> simp only[wt,we,xk]
 ·rw[e2,f2];simp only[wt,we,xk]
def MU {t b s c:Int} (hb:0<b) (hc:0<c):((red t b).1*(red s c).2<(red s c).1*(red t b).2)↔t*c<s*b:=by
 let⟨g,g0,e1,e2,p,_⟩:=iS (t:=t) hb;let⟨k,k0,f1,f2,q,_⟩:=iS (t:=s) hc;generalize hx:red t b=x at *;generalize hy:red s c=y at *;let a1:t*c=(g*k)*(x.1*y.2):=by rw[e1,f2];simp only[wt,we,xk]
 let a2:s*b=(g*k)*(y.1*x.2):=by rw[f1,e2];simp only[wt,we,xk]
 rw[a1,a2];exact(Int.mul_lt_mul_left (xh g0 k0)).symm
end Lm
namespace Lm
def Rd (x:Int×Int):Prop:=∃t b,0<=t/\0<b/\x=red t b
def Rd.of {t b:Int} (ht:0<=t) (hb:0<b):Rd (red t b):={(t),b,ht,hb,rfl}
def Rd.pos {x:Int×Int} (h:Rd x):0<=x.1/\0<x.2/\red x.1 x.2=x:=by
 let⟨t,b,ht,hb,rfl⟩:=h;let⟨g,g0,e1,e2,p,_⟩:=iS (t:=t) hb;exact{Eb ht,p,Ks hb}
def Rd.zero:Rd (0,1):={0,1,∅,∅,∅}
theorem Rd.add {x y:Int×Int} (h:Rd x) (k:Rd y):Rd (add x y):=by
 let⟨a,b,_⟩:=h.pos;let⟨c,d,_⟩:=k.pos;refine{_,_,?_,xh b d,rfl};exact Int.add_nonneg (xK a ()) (xK c ())
theorem add_comm (x y:Int×Int):add x y=add y x:=by
 unfold add;rw[Int.add_comm,xk x.2 y.2]
theorem add_zero {x:Int×Int} (h:Rd x):add x (0,1)=x:=by
 unfold add;simp only[Int.mul_one,Int.zero_mul,Int.add_zero];exact h.pos.2.2
def Nw {x y:Int×Int} (hx:Rd x) (hy:Rd y):y.1*(add x y).2<=(add x y).1*y.2:=by
 let⟨a,b,ha,hb,rfl⟩:=hx;let⟨c,d,hc,hd,rfl⟩:=hy;rw[Lg hb hd];let h:=(MU (t:=a*d+c*b) (b:=b*d) (s:=c) (c:=d) (xh hb hd) hd)
 apply Int.not_lt.mp;intro z;rw[h] at z;let e:(a*d+c*b)*d=a*d*d+c*(b*d):=by rw[Int.add_mul,wt c b d]
 let nn:0<=a*d*d:=xK (xK ha ()) ();ext
def CJ {x y:Int} (hx:0<=x) (hy:0<y):Int.gcd y (x%y)=Int.gcd x y:=by
 let e:(x%y).natAbs=x.natAbs%y.natAbs:=by
  let⟨a,rfl⟩:=yC hx;let⟨b,rfl⟩:=yC (yS hy);rfl
 show Nat.gcd y.natAbs (x%y).natAbs=Nat.gcd x.natAbs y.natAbs;rw[e,Nat.gcd_comm x.natAbs,Nat.gcd_rec y.natAbs x.natAbs,Nat.gcd_comm]
def Jq {t b:Int} (hb:0<b):(Int.gcd t b:Int)<=b:=by
 let h:Int.gcd t b<=b.natAbs:=Nat.gcd_le_right _ ();ext
end Lm
namespace Lm
end Lm
namespace Lm
theorem FX {c:Nat}:∀{p q A B:List Nat},c∉p->c∉q->p++c::A=q++c::B->p=q/\A=B
 | [],[],A,B,_,_,h=>{rfl,by simpa using h}
 | [],y::q,A,B,_,hq,h=>by
  simp at h;exact absurd (by rw[h.1];exact zk) hq
 | x::p,[],A,B,hp,_,h=>by
  simp at h;exact absurd (by rw[<-h.1];exact zk) hp
 | x::p,y::q,A,B,hp,hq,h=>by
  simp only[List.cons_append,List.cons.injEq] at h;let⟨e,h⟩:=h;let⟨e1,e2⟩:=FX (λz=>hp (zj _ z)) (λz=>hq (zj _ z)) h;exact{by rw[e,e1],e2}
def Jn:∀(n:Nat),0<n->∃c r,Nat.toDigits 10 n=c::r/\c≠'0':=by
 intro n
 induction n using Nat.strongRecOn with
 | _ n ih=>
  intro hn
  by_cases h:n<10
  ·rw[Nat.toDigits_of_lt_base h]
   refine{_,[],rfl,?_};exact(by decide:∀n<10,0<n->Nat.digitChar n≠'0') n h hn
  ·let hd:n%10<10:=wF _ ∅
   let⟨c,r,e,hc⟩:=ih (n/10) () ();let t:=Nat.toDigits_append_toDigits (b:=10) (n:=n/10) (d:=n%10) ∅ () hd;rw[Nat.div_add_mod,e] at t;exact{c,r++Nat.toDigits 10 (n%10),by rw[<-t];rfl,hc}
def MX {n k:Nat} (hk:0<k):n<10^k->⇑(Nat.toDigits 10 n)<=k:=by
 intro h
 induction k generalizing n with
 | zero=>ext
 | succ k ih=>
  by_cases h10:n<10
  ·rw[Nat.toDigits_of_lt_base h10];simp
  ·let hd:n%10<10:=wF _ ∅
   let hk0:0<k:=by
    rcases Nat.eq_zero_or_pos k with rfl | z
    ·simp at h;ext
    ·exact z
   have:=ih hk0 (n:=n/10) (by rw[Nat.div_lt_iff_lt_mul ∅];rw[Nat.pow_succ] at h;exact h);let t:=Nat.toDigits_append_toDigits (b:=10) (n:=n/10) (d:=n%10) ∅ () hd;rw[Nat.div_add_mod] at t;rw[<-t,ze,Nat.toDigits_of_lt_base hd];simp;ext
end Lm
namespace L2
open PySem
def fh (t:Bool) (h:wW) (a:wV) (items:Array wM):Prop:=match t with
 | true=>h.IsTuple a items
 | false=>h.IsList a items
def b9 (t:Bool) (h:wW) (it a:wV) (k:Nat):Prop:=match t with
 | true=>h.IsTupleIter it a k
 | false=>h.IsListIter it a k
def mV (t:Bool) (a:wV):Obj:=match t with
 | true=>{cls:=.type "tuple_iterator",data:=.fields #[.ref a,.int 0 0]}
 | false=>{cls:=.type "list_iterator",data:=.fields #[.ref a,.int 0 0]}
theorem fh.at {t:Bool} {h h':wW} {a:wV} {items:Array wM} (x:fh t h a items) (e:∀o,h.get? a=some o->h'.get? a=some o):fh t h' a items:=by
 cases t
 ·exact Heap.IsList.at x e
 ·let⟨o,ho,r⟩:=x;exact{o,e o ho,r}
theorem b9.at {t:Bool} {h h':wW} {it a:wV} {k:Nat} (x:b9 t h it a k) (e:∀o,h.get? it=some o->h'.get? it=some o):b9 t h' it a k:=by
 cases t
 ·exact Heap.IsListIter.at x e
 ·exact Heap.IsTupleIter.at x e
def fh.but {t:Bool} {h h':wW} {a b:wV} {items:Array wM} (x:fh t h a items) (hs:Heap.SameBut b h h') (n:a≠b):fh t h' a items:=x.at λo e=>hs.extBut a o n e
def b9.but {t:Bool} {h h':wW} {it a b:wV} {k:Nat} (x:b9 t h it a k) (hs:Heap.SameBut b h h') (n:it≠b):b9 t h' it a k:=x.at λo e=>hs.extBut it o n e
theorem b9.get {t:Bool} {h:wW} {it a:wV} {k:Nat} (x:b9 t h it a k):∃o,h.get? it=some o/\∀v,o.data≠.cell v:=by
 cases t
 ·let⟨o,e,_,d⟩:=x;exact{o,e,λv z=>by rw[d] at z;cases z}
 ·let⟨o,e,_,d⟩:=x;exact{o,e,λv z=>by rw[d] at z;cases z}
def b9.new (t:Bool) (h:wW) (a:wV):b9 t (h.push (mV t a)) h.objs.size a 0:=by
 cases t
 ·exact{_,yn _ rfl,rfl,rfl}
 ·exact{_,yn _ rfl,rfl,rfl}
section
variable {prog:wO} {w:wQ} {A:wR} {E:wM->wN->Prop} {s:wN}
def Fq {t:Bool} {a:wV} {items:Array wM} {Q:wM->wN->Prop} (hl:fh t s.heap a items) (hQ:Q (.ref ↑s) {s with heap:=s.heap.push (mV t a)}) :
  wpAny (model prog w) A (pyIter (.ref a)) Q E s:=by
 cases t
 ·exact wb hl hQ
 ·exact wpAny_pyIter_tuple hl hQ
def vL {t:Bool} {it a:wV} {i:Nat} {items:Array wM} {x:wM} {Q:wM->wN->Prop} (hit:b9 t s.heap it a i) (hl:fh t s.heap a items) (hx:items[i]?=some x)
  (hQ:∀h',b9 t h' it a (i+1)->Heap.SameBut it s.heap h'->Q x {s with heap:=h'}):wpAny (model prog w) A (Builtin.SmallTypes.nextOf (.ref it)) Q E s:=by
 cases t
 ·exact wpAny_nextOf_list_item hit hl hx hQ
 ·let hit':s.heap.IsTupleIter it a i:=hit
  let⟨o,ho,hc,hd⟩:=id hit';let⟨ol,hol,_,nl,hdl⟩:=(show s.heap.IsTuple a items from hl)
  unfold Builtin.SmallTypes.nextOf;refine yj (yP (name:=Str.ofString "__next__") hit'.typeIs xM (yT xM hit'.typeIs F.entry_tuple_iterator_next ?_ (F.args_tuple_iterator_next_1 _)));show wpAny _ _ (field (.ref it) 0 >>= _) _ _ s;refine yj (yR ho hd (x:=.ref a) rfl ?_);show wpAny _ _ (if(Value.ref a == Value.none)=true then _ else _) _ _ s;rw[yE (show¬((Value.ref a == Value.none)=true) from zI)];show wpAny _ _ (field (.ref it) 1 >>= _) _ _ s;refine yj (yR ho hd (x:=.int i 0) rfl ?_);show wpAny _ _ (seqItems? (.ref a) >>= _) _ _ s;refine yj (xa hol hdl ?_);simp only[xH,hx];refine yj (wpAny_setField ho hd (by simp) (ym {x,rfl,ym (hQ _ ?_ (wA ..))}));exact{_,yq _ ho (Obj.isFreed_of_fields (wH hd _)),(Obj.cls_mapFields ..).trans hc,by rw[wH hd];simp[rawInt]}
def Fp {t:Bool} {it a:wV} {i:Nat} {items:Array wM} {Q:wM->wN->Prop} (hh:A.handled=none) (hit:b9 t s.heap it a i) (hl:fh t s.heap a items) (hx:items[i]?=none)
  (hE:∀h' e,Heap.ExtBut it s.heap h'->(∃o,h'.get? e=some o/\o.cls=.type "StopIteration")->E (.ref e) {s with heap:=h'}):wpAny (model prog w) A (Builtin.SmallTypes.nextOf (.ref it)) Q E s:=by
 cases t
 ·exact wpAny_nextOf_list_end hh hit hl hx hE
 ·let hit':s.heap.IsTupleIter it a i:=hit
  let⟨o,ho,hc,hd⟩:=id hit';let⟨ol,hol,_,nl,hdl⟩:=(show s.heap.IsTuple a items from hl)
  unfold Builtin.SmallTypes.nextOf;refine yj (yP (name:=Str.ofString "__next__") hit'.typeIs xM (yT xM hit'.typeIs F.entry_tuple_iterator_next ?_ (F.args_tuple_iterator_next_1 _)));show wpAny _ _ (field (.ref it) 0 >>= _) _ _ s;refine yj (yR ho hd (x:=.ref a) rfl ?_);show wpAny _ _ (if(Value.ref a == Value.none)=true then _ else _) _ _ s;rw[yE (show¬((Value.ref a == Value.none)=true) from zI)];show wpAny _ _ (field (.ref it) 1 >>= _) _ _ s;refine yj (yR ho hd (x:=.int i 0) rfl ?_);show wpAny _ _ (seqItems? (.ref a) >>= _) _ _ s;refine yj (xa hol hdl ?_);simp only[xH,hx];refine yj (wpAny_rule (yj (wpAny_setField ho hd (by simp) ?_)));show wpAny _ _ (newExc (.type "StopIteration") [] >>= _) _ _ _;refine yj ?_;simp only[newExc,newTuple];refine yj (yU ?_ (by size_fits));refine yj (m:=firstArgMember _ _) (wpAny_of_eq (a:=Value.none) (by first | rfl | (simp only[firstArgMember];rfl)) (yU ?_ (by size_fits)));simp only[raiseNew];refine yj (wpAny_handled ?_)
  first | rw[show A.in1.handled=none from hh] | rw[hh]
  exact yj (ym (wpAny_throw (hE _ _ (((wA ..).extBut.push _).push _) {_,yn _ rfl,rfl})))
structure NK (z TI TO i1 i2:wV):Prop where
 a1:TI≠z
 a2:TO≠z
 a3:i1≠z
 a4:i2≠z
 a5:TI≠TO
 a6:TI≠i1
 a7:TI≠i2
 a8:TO≠i1
 a9:TO≠i2
 b1:i1≠i2
structure JV (l z TO i1 i2:wV):Prop where
 a1:l≠z
 a2:l≠TO
 a3:l≠i1
 a4:l≠i2
def Dw (z TO i1 i2:wV) (h h':wW):Prop:=∀c o,c≠z->c≠TO->c≠i1->c≠i2->h.get? c=some o->h'.get? c=some o
structure LV (t1 t2:Bool) (h:wW) (z TI TO i1 i2 l1 l2:wV) (k:Nat) (f0:wM):Prop where
 z:IsZip h z TI TO f0
 ti:IsPair h TI (.ref i1) (.ref i2)
 to:∃a b,IsPair h TO a b
 i1:b9 t1 h i1 l1 k
 i2:b9 t2 h i2 l2 k
def Hw {t1 t2:Bool} {z TI TO i1 i2 l1 l2:wV} {k:Nat} {xs ys:Array wM} {x y:wM} {Q:wM->wN->Prop} (D:NK z TI TO i1 i2) (L1:JV l1 z TO i1 i2) (L2:JV l2 z TO i1 i2)
  (S:LV t1 t2 s.heap z TI TO i1 i2 l1 l2 k .none) (hl1:fh t1 s.heap l1 xs) (hl2:fh t2 s.heap l2 ys) (hx:xs[k]?=some x) (hy:ys[k]?=some y)
  (hQ:∀h',LV t1 t2 h' z TI TO i1 i2 l1 l2 (k+1) (rawInt ↑s)->IsPair h' ↑s x y->Dw z TO i1 i2 s.heap h'->Q (.ref ↑s) {s with heap:=h'}) :
  wpAny (model prog w) A (Builtin.«zip.__next__» {[.ref z],[]}) (λfin s'=>∃v,fin=.done (.ret v)/\Q v s') E s:=by
 let⟨hz,hTI,⟨a,b,hTO⟩,h1,h2⟩:=S;show wpAny _ _ (field (.ref z) 2 >>= _) _ _ _;refine yj (yR hz rfl (x:=.bool false) rfl ?_);show wpAny _ _ (field (.ref z) 3 >>= _) _ _ _;refine yj (yR hz rfl (x:=.ref TI) rfl (yj (xa hTI rfl ?_)));show wpAny _ _ (Builtin.SmallTypes.ownedTupleIsFree (.ref z) >>= _) _ _ _;refine yj ?_;unfold Builtin.SmallTypes.ownedTupleIsFree;refine yj (yR hz rfl (x:=.none) rfl (ym ?_));simp only[wB];refine yj (wpAny_rule (yj (yR hz rfl (x:=.ref TO) rfl (yj (xp hz (by simp) λg1 z1 q1=>?_)))));replace z1:IsZip g1 z TI TO .ellipsis:=z1;refine yj ?_;simp only[List.zipIdx_cons,List.zipIdx_nil,List.forIn_cons,List.forIn_nil];refine yj (yj (wpAny_onRaise ?_));show wpAny _ _ (Builtin.SmallTypes.nextOf (.ref i1) >>= _) _ _ _;refine yj (vL (h1.but q1 D.a3) (hl1.but q1 L1.a1) hx λg2 p2 q2=>ym ?_);let o2:IsPair g2 TO a b:=q2.extBut _ _ D.a8 (q1.extBut _ _ D.a2 hTO);refine yj (xa o2 rfl (yj (wpAny_updateSeq_pair o2 λg3 o3 q3=>yj (wpAny_letGo (ym (yj (yj (wpAny_onRaise ?_))))))));replace o3:IsPair g3 TO x b:=o3;show wpAny _ _ (Builtin.SmallTypes.nextOf (.ref i2) >>= _) _ _ _;refine yj (vL (((h2.but q1 D.a4).but q2 D.b1.symm).but q3 D.a9.symm) (((hl2.but q1 L2.a1).but q2 L2.a3).but q3 L2.a2) hy λg4 p4 q4=>ym ?_);let o4:IsPair g4 TO x b:=q4.extBut _ _ D.a9 o3;refine yj (xa o4 rfl (yj (wpAny_updateSeq_pair o4 λg5 o5 q5=>yj (wpAny_letGo (ym (ym ?_))))));replace o5:IsPair g5 TO x y:=o5;refine yj (xa o5 rfl (yj (wpAny_newTuple ?_)));let sz:g5.objs.size=↑s:=by rw[q5.1,q4.1,q3.1,q2.1,q1.1]
 let z5:IsZip g5 z TI TO .ellipsis:=q5.extBut _ _ D.a2.symm (q4.extBut _ _ D.a4.symm (q3.extBut _ _ D.a2.symm (q2.extBut _ _ D.a3.symm z1)));let k5:Dw z TO i1 i2 s.heap g5:=λc o c1 c2 c3 c4 e=>q5.extBut _ _ c2 (q4.extBut _ _ c4 (q3.extBut _ _ c2 (q2.extBut _ _ c3 (q1.extBut _ _ c1 e))));let r1:b9 t1 g5 i1 l1 (k+1):=((p2.but q3 D.a8.symm).but q4 D.b1).but q5 D.a8.symm;let r2:b9 t2 g5 i2 l2 (k+1):=p4.but q5 D.a9.symm;let zl:z<g5.objs.size:=yo z5;show wpAny _ _ (Builtin.SmallTypes.ownedTupleHandOut (.ref z) (.ref g5.objs.size) >>= _) _ _ _;refine yj ?_;unfold Builtin.SmallTypes.ownedTupleHandOut;let z6:IsZip (g5.push {cls:=.type "tuple",data:=.seq #[x,y]}) z TI TO .ellipsis:=yk _ z5;refine yj (xp z6 (by simp) λg7 z7 q7=>?_);replace z7:IsZip g7 z TI TO (rawInt g5.objs.size):=z7;refine xp z7 (by simp) λg8 z8 q8=>?_;replace z8:IsZip g8 z TI TO (rawInt g5.objs.size):=z8;let up:∀c o,c≠z->g5.get? c=some o->g8.get? c=some o:=λc o c1 e=>q8.extBut _ _ c1 (q7.extBut _ _ c1 (yk _ e));let t8:IsPair g8 g5.objs.size x y:=q8.extBut _ _ (z9 zl) (q7.extBut _ _ (z9 zl) (yn _ rfl));rw[sz] at z8 t8;refine ym {_,rfl,?_};show Q (.ref g5.objs.size) _;rw[sz];exact hQ g8 {z8,up _ _ D.a1 (k5 _ _ D.a1 D.a5 D.a6 D.a7 hTI),{_,_,up _ _ D.a2 o5},r1.at λo e=>up _ o D.a3 e,r2.at λo e=>up _ o D.a4 e} t8 λc o c1 c2 c3 c4 e=>up c o c1 (k5 c o c1 c2 c3 c4 e)
def Hv {t1 t2:Bool} {z TI TO i1 i2 l1 l2:wV} {k:Nat} {xs ys:Array wM} {Q:Fin->wN->Prop} (hh:A.handled=none) (D:NK z TI TO i1 i2) (L1:JV l1 z TO i1 i2) (L2:JV l2 z TO i1 i2)
  (S:LV t1 t2 s.heap z TI TO i1 i2 l1 l2 k .none) (hl1:fh t1 s.heap l1 xs) (hl2:fh t2 s.heap l2 ys) (hend:xs[k]?=none\/ys[k]?=none)
  (hE:∀h' e,Dw z TO i1 i2 s.heap h'->(∃o,h'.get? e=some o/\o.cls=.type "StopIteration")->E (.ref e) {s with heap:=h'}) :
  wpAny (model prog w) A (Builtin.«zip.__next__» {[.ref z],[]}) Q E s:=by
 let⟨hz,hTI,⟨a,b,hTO⟩,h1,h2⟩:=S;show wpAny _ _ (field (.ref z) 2 >>= _) _ _ _;refine yj (yR hz rfl (x:=.bool false) rfl ?_);show wpAny _ _ (field (.ref z) 3 >>= _) _ _ _;refine yj (yR hz rfl (x:=.ref TI) rfl (yj (xa hTI rfl ?_)));show wpAny _ _ (Builtin.SmallTypes.ownedTupleIsFree (.ref z) >>= _) _ _ _;refine yj ?_;unfold Builtin.SmallTypes.ownedTupleIsFree;refine yj (yR hz rfl (x:=.none) rfl (ym ?_));simp only[wB];refine yj (wpAny_rule (yj (yR hz rfl (x:=.ref TO) rfl (yj (xp hz (by simp) λg1 z1 q1=>?_)))));replace z1:IsZip g1 z TI TO .ellipsis:=z1;refine yj ?_;simp only[List.zipIdx_cons,List.zipIdx_nil,List.forIn_cons,List.forIn_nil];refine yj (yj (wpAny_onRaise ?_));show wpAny _ _ (Builtin.SmallTypes.nextOf (.ref i1) >>= _) _ _ _;cases hx:xs[k]? with
 | none=>
  refine yj (Fp hh (h1.but q1 D.a3) (hl1.but q1 L1.a1) hx λg2 e q2 he=>?_);let⟨oe,hoe,hce⟩:=he;let z2:IsZip g2 z TI TO .ellipsis:=q2 _ _ D.a3.symm z1;let hez:e≠z:=λx=>by subst x;rw[z2] at hoe;cases hoe;simp at hce
  exact xp z2 (by simp) λg3 _ q3=>hE g3 e (λc o c1 _ c3 _ x=>q3.extBut _ _ c1 (q2 _ _ c3 (q1.extBut _ _ c1 x))) {oe,q3.extBut _ _ hez hoe,hce}
 | some x=>
  let hy:ys[k]?=none:=by rcases hend with h | h;rw[hx] at h;cases h;exact h
  refine yj (vL (h1.but q1 D.a3) (hl1.but q1 L1.a1) hx λg2 p2 q2=>ym ?_);let o2:IsPair g2 TO a b:=q2.extBut _ _ D.a8 (q1.extBut _ _ D.a2 hTO);refine yj (xa o2 rfl (yj (wpAny_updateSeq_pair o2 λg3 o3 q3=>yj (wpAny_letGo (ym (yj (yj (wpAny_onRaise ?_))))))));show wpAny _ _ (Builtin.SmallTypes.nextOf (.ref i2) >>= _) _ _ _;refine yj (Fp hh (((h2.but q1 D.a4).but q2 D.b1.symm).but q3 D.a9.symm) (((hl2.but q1 L2.a1).but q2 L2.a3).but q3 L2.a2) hy λg4 e q4 he=>?_);let⟨oe,hoe,hce⟩:=he;let z4:IsZip g4 z TI TO .ellipsis:=q4 _ _ D.a4.symm (q3.extBut _ _ D.a2.symm (q2.extBut _ _ D.a3.symm z1));let hez:e≠z:=λx=>by subst x;rw[z4] at hoe;cases hoe;simp at hce
  exact xp z4 (by simp) λg5 _ q5=>hE g5 e (λc o c1 c2 c3 c4 x=>q5.extBut _ _ c1 (q4 _ _ c4 (q3.extBut _ _ c2 (q2.extBut _ _ c3 (q1.extBut _ _ c1 x))))) {oe,q5.extBut _ _ hez hoe,hce}
def HA {t1 t2:Bool} {z TI TO i1 i2 l1 l2:wV} {k:Nat} {xs ys:Array wM} {x y:wM} {Q:Option wM->wN->Prop} (D:NK z TI TO i1 i2) (L1:JV l1 z TO i1 i2) (L2:JV l2 z TO i1 i2)
  (S:LV t1 t2 s.heap z TI TO i1 i2 l1 l2 k .none) (hl1:fh t1 s.heap l1 xs) (hl2:fh t2 s.heap l2 ys) (hx:xs[k]?=some x) (hy:ys[k]?=some y)
  (hQ:∀h',LV t1 t2 h' z TI TO i1 i2 l1 l2 (k+1) (rawInt ↑s)->IsPair h' ↑s x y->Dw z TO i1 i2 s.heap h'->Q (some (.ref ↑s)) {s with heap:=h'}) :
  wpAny (model prog w) A (pyNext (.ref z)) Q E s:=by
 let hT:s.TypeIs (.ref z) "zip":={_,S.z,rfl}
 unfold pyNext;exact yj (wm (yP (name:=Str.ofString "__next__") hT xq (yT xq hT F.entry_zip_next (Hw D L1 L2 S hl1 hl2 hx hy λh' a1 a2 a3=>ym (hQ h' a1 a2 a3)) (F.args_zip_next_1 _))))
def Hz {t1 t2:Bool} {z TI TO i1 i2 l1 l2:wV} {k:Nat} {xs ys:Array wM} {Q:Option wM->wN->Prop} (hh:A.handled=none) (D:NK z TI TO i1 i2) (L1:JV l1 z TO i1 i2) (L2:JV l2 z TO i1 i2)
  (S:LV t1 t2 s.heap z TI TO i1 i2 l1 l2 k .none) (hl1:fh t1 s.heap l1 xs) (hl2:fh t2 s.heap l2 ys) (hend:xs[k]?=none\/ys[k]?=none)
  (hQ:∀h',Dw z TO i1 i2 s.heap h'->Q none {s with heap:=h'}):wpAny (model prog w) A (pyNext (.ref z)) Q E s:=by
 let hT:s.TypeIs (.ref z) "zip":={_,S.z,rfl}
 unfold pyNext;refine yj (wm (yP (name:=Str.ofString "__next__") hT xq (yT xq hT F.entry_zip_next (Hv hh D L1 L2 S hl1 hl2 hend λh' e hk he=>?_) (F.args_zip_next_1 _))));let⟨o,ho,hc⟩:=he;exact yj (wpAny_isInstance (T:="StopIteration") (b:=true) {(o),ho,hc} isSubtype_stop (ym (hQ _ hk)))
end
abbrev Pa (t1:Bool) (h:wW) (l1:wV):wW:=h.push (mV t1 l1)
abbrev NN (t1 t2:Bool) (h:wW) (l1 l2:wV):wW:=(Pa t1 h l1).push (mV t2 l2)
abbrev O9 (t1 t2:Bool) (h:wW) (l1 l2:wV):wW:=(NN t1 t2 h l1 l2).push {cls:=.type "tuple",data:=.seq #[.ref h.objs.size,.ref (Pa t1 h l1).objs.size]}
abbrev O8 (t1 t2:Bool) (h:wW) (l1 l2:wV):wW:=(O9 t1 t2 h l1 l2).push {cls:=.type "tuple",data:=.seq #[.none,.none]}
abbrev L5 (t1 t2:Bool) (h:wW) (l1 l2:wV):wW:=(O8 t1 t2 h l1 l2).push {cls:=.type "zip",data:=.fields #[.none,.bool false,.bool false,.ref (NN t1 t2 h l1 l2).objs.size,.ref (O9 t1 t2 h l1 l2).objs.size]}
def HB (t1 t2:Bool) (l1 l2:wV) (xs ys:Array wM) :
  Meets (Builtin.«zip.__new__» {[.type "zip",.ref l1,.ref l2],[]}) (λ_ R s=>fh t1 s.heap l1 xs/\fh t2 s.heap l2 ys/\R (.ok (.ret (.ref (O8 t1 t2 s.heap l1 l2).objs.size))) {s with heap:=L5 t1 t2 s.heap l1 l2}):=
 .of_wp λprog w A R s h=>by
  let⟨hp,g,d,tk,os⟩:=s;let⟨a1,a2,h⟩:=h;let hsub:=sub_zip;let b1:fh t1 (Shared.heap {(hp),g,d,tk,os}) l1 xs:=a1;let b2:fh t2 (Shared.heap {hp.push (mV t1 l1),g,d,tk,os}) l2 ys:=a2.at λo e=>yk _ e;wp_walk using Fq b1,Fq b2;exact{_,rfl,h}
def HC {prog:wO} {w:wQ} {A:wR} {E:wM->wN->Prop} {s:wN} {t1 t2:Bool} {l1 l2:wV} {xs ys:Array wM} {Q:wM->wN->Prop} (hl1:fh t1 s.heap l1 xs) (hl2:fh t2 s.heap l2 ys)
  (h:∀h',LV t1 t2 h' (↑s+4) (↑s+2) (↑s+3) ↑s (↑s+1) l1 l2 0 .none->(∀c o,s.heap.get? c=some o->h'.get? c=some o)->Q (.ref (↑s+4)) {s with heap:=h'}) :
  wpAny (model prog w) A (call (.type "zip") [.ref l1,.ref l2]) Q E s:=by
 refine callType_new F.called_zip ∅ (F.typeCall_zip_2 _ _) (F.newCall_zip_2 _ _) (λobj=>F.args_object_init_3 obj _ _) F.entry_zip_new (HB t1 t2 l1 l2 xs ys) {hl1,hl2,?_};let z1:(Pa t1 s.heap l1).objs.size=↑s+1:=yZ ..;let z2:(NN t1 t2 s.heap l1 l2).objs.size=↑s+2:=by rw[yZ,z1]
 let z3:(O9 t1 t2 s.heap l1 l2).objs.size=↑s+3:=by rw[yZ,z2]
 let z4:(O8 t1 t2 s.heap l1 l2).objs.size=↑s+4:=by rw[yZ,z3]
 let up:∀c o,(NN t1 t2 s.heap l1 l2).get? c=some o->(L5 t1 t2 s.heap l1 l2).get? c=some o:=λc o e=>yk _ (yk _ (yk _ e));let g5:(L5 t1 t2 s.heap l1 l2).get? (O8 t1 t2 s.heap l1 l2).objs.size=some _:=yn _ rfl;let g4:(L5 t1 t2 s.heap l1 l2).get? (O9 t1 t2 s.heap l1 l2).objs.size=some _:=yk _ (yn _ rfl);let g3:(L5 t1 t2 s.heap l1 l2).get? (NN t1 t2 s.heap l1 l2).objs.size=some _:=yk _ (yk _ (yn _ rfl));let g2:b9 t2 (L5 t1 t2 s.heap l1 l2) (Pa t1 s.heap l1).objs.size l2 0:=(b9.new t2 _ l2).at (up _);let g1:b9 t1 (L5 t1 t2 s.heap l1 l2) ↑s l1 0:=((b9.new t1 _ l1).at λo e=>yk _ e).at (up _);show _/\_;rw[z2,z3,z4] at g5;rw[z1,z2] at g3;rw[z3] at g4;rw[z1] at g2;rw[z4];exact{{_,g5,rfl},h _ {g5,g3,{_,_,g4},g1,g2} λc o x=>up c o (yk _ (yk _ x))}
end L2
namespace L2
open PySem PySem.Spec PyProof.Rows
def cj (h:H p=none):au H (upd H p o):=λb u e=>by rw[ao (aL e h)];exact e
def laid {H:Hp} {o:HO} {Q:VK} (k:∀p H',au H H'->H' p=some o->Q (.ref p) H'):∀p,H p=none->Q (.ref p) (upd H p o):=λp hp=>k p _ (cj hp) aA
section
variable {X:Cx} {pins:List (wV×Obj)} {U:St} {H:Hp} {s:wN} {h':wW}
def Inv.Bz {T:wV} {o:HO} {ch:List wV} {t':Nat} (I:Inv X pins U H s) (hf:∀b∈ch,uo X pins H b) (hT:↑s<=T) (k:∀b u,b∉ch->s.heap.get? b=some u->h'.get? b=some u)
  (new:aW X.prog X.w (upd H T o) h' T o):Inv X pins U (upd H T o) {s with heap:=h',toks:=t'}:=by
 let hn:H T=none:=I.aT.fresh hT;let neT:∀b u,s.heap.get? b=some u->b≠T:=λb u e=>ya (zV (yo e) hT);let nch:∀b u,H b=some u->b∉ch:=λb u e hb=>by rw[(hf b hb).1] at e;cases e
 refine I.step (g':=s.gens) (d':=s.drawn) (ch:=ch) (λb hb=>?_) (λb u _ _ hc e _=>k b u hc e) (λb u _ _ hc e _=>{u.slots,k b u hc e}) (λb u hc e n=>by rw[ao (neT b u e)];exact n) (λb u hc e=>{u,k b u hc e})
  (λb xs e=>by rw[ao (aL e hn)];exact e) (λb ob u e=>by rw[ao (aL e hn)];exact e) (λb ps e=>{#[],by rw[ao (aL e hn),e];simp}) (λm hm=>?_) (λb u e=>?_) I.bare
 ·let⟨f0,f1,f2,f3,f4,f5⟩:=hf b hb
  exact{(f3),f1,f4,f5}
 ·let⟨ob,es,ep,ho,r⟩:=hm
  exact{ob,es,ep,k _ _ (λz=>(hf _ z).2.1 rfl) ho,r}
 ·by_cases hb:b=T
  ·subst hb;rw[aA] at e;cases e;exact new
  ·rw[ao hb] at e
   refine(I.aT b u e).gs (λc v hc q=>k c v ?_ q) (λc q=>by rw[ao (aL q hn)];exact q) λc xs q=>by rw[ao (aL q hn)];exact q
   rcases hc with z | z
   ·rw[z];exact nch b u e
   ·exact nch c _ z
def Inv.turns {ch:List wV} {t':Nat} (I:Inv X pins U H s) (hf:∀b∈ch,uo X pins H b) (k:∀b u,b∉ch->s.heap.get? b=some u->h'.get? b=some u):Inv X pins U H {s with heap:=h',toks:=t'}:=by
 let nch:∀b u,H b=some u->b∉ch:=λb u e hb=>by rw[(hf b hb).1] at e;cases e
 refine I.step (g':=s.gens) (d':=s.drawn) (ch:=ch) (λb hb=>?_) (λb u _ _ hc e _=>k b u hc e) (λb u _ _ hc e _=>{u.slots,k b u hc e}) (λb u hc e n=>n) (λb u hc e=>{u,k b u hc e})
  (λb xs e=>e) (λb ob u e=>e) (λb ps e=>{#[],by rw[e];simp}) (λm hm=>?_) (λb u e=>?_) I.bare
 ·let⟨f0,f1,f2,f3,f4,f5⟩:=hf b hb
  exact{(f3),f1,f4,f5}
 ·let⟨ob,es,ep,ho,r⟩:=hm
  exact{ob,es,ep,k _ _ (λz=>(hf _ z).2.1 rfl) ho,r}
 ·refine(I.aT b u e).gs (λc v hc q=>k c v ?_ q) (λc q=>q) λc xs q=>q
  rcases hc with z | z
  ·rw[z];exact nch b u e
  ·exact nch c _ z
def A8:bootBuiltins "enumerate"= some (.type "enumerate"):=by decide +kernel
def Nt:bootBuiltins "zip"= some (.type "zip"):=by decide +kernel
def ND (K:yr) (a:wV):It:=
 {λi H=>∃xs x,aD K H a xs/\xs[i]?=some x,λi H x H'=>∃p v,H p=none/\x=.ref p/\H'=upd H p (.tup [.int (i:Int),v])/\∀xs,aD K H a xs->xs[i]?=some v,λi H=>∃xs,aD K H a xs/\⇑xs<=i}
def Gh {P:wO} {w:wQ} {K:yr} {es:List Expr} {kt:Nat} {tp:Pos} (a it e:wV) (hne:e≠it) :
  Turn P w K (.Tuple es kt tp) (ND K a) [e,it] e (λi h=>(∃old,IsEnum h e it (i:Int) old)/\h.IsListIter it a i) where
 mem:=by simp
 obj:=λi h st b hb=>by
  let⟨⟨old,he⟩,o,e1,c,d⟩:=st;rcases zA.mp hb with z | z
  ·subst z;exact{_,he,λv z=>by cases z}
  ·let z':b=it:=by simpa using z
   subst z';exact{o,e1,λv z=>by rw[d] at z;cases z}
 keep:=λi h h' st k=>{let ⟨old,he⟩:=st.1;{old,k e (by simp) _ he},st.2.at λo e=>k it (by simp) o e}
 item:=by
  intro X hP hw hK hc i pins s U H E I hf st hg;subst hP hw hK;let⟨xs,x,hq,hx⟩:=hg;let⟨its,rv,p,hz⟩:=I.list hq;let⟨u,hu,ru⟩:=rv.get hx;let⟨⟨old,he⟩,hit⟩:=st;refine wpAny_pyNext_enum_item he hit p.isList (x:=u) (by simpa using hu) hne λg1 ho hit1 hT hsz hk=>?_;refine{_,rfl,wpAny_letOwnedTupleGo_enum (s:={s with heap:=g1,toks:=s.toks+1}) ho λg2 he2 hs2=>?_};let hel:e<↑s:=yo he;let gT:g2.get? ↑s=some {cls:=.type "tuple",data:=.seq #[.int i s.toks,u]}:=hs2.extBut _ _ (z9 hel) hT;let I1:Inv X pins U (upd H ↑s (.tup [.int (i:Int),x])) {s with heap:=g2,toks:=s.toks+1}:=
   I.Bz hf (zh _) (λb ob hb q=>hs2.extBut _ _ (λz=>hb (by simp[z])) (hk b ob (λz=>hb (by simp[z])) (λz=>hb (by simp[z])) q))
    {by show 2<=sizeLine;decide,[.int i s.toks,u],.cons {_,rfl} (.cons ru .nil),{_,gT,rfl,_,rfl}}
  refine{.ref ↑s,_,I1,rfl,{_,x,I.aT.fresh (zh _),rfl,rfl,λys hy=>by rw[I.qZ hy hq];exact hx},{{_,by simpa using he2},hit1.at λo q=>hs2.extBut _ _ hne.symm q},λb hb=>?_};let hb':=(hf b hb).1;obtain⟨o,ho',_⟩:∃o,s.heap.get? b=some o/\True:=by
   rcases zA.mp hb with z | z
   ·subst z;exact{_,he,trivial}
   ·let z':b=it:=by simpa using z
    subst z';let⟨o,e1,_⟩:=hit;exact{(o),e1,trivial}
  rw[ao (ya (yo ho'))];exact hb'
 done:=by
  intro X hP hw hK hc i pins s U H E I hf st hg;subst hP hw hK;let⟨xs,hq,hx⟩:=hg;let⟨its,rv,p,hz⟩:=I.list hq;let⟨⟨old,he⟩,hit⟩:=st;let hl:=⇑rv;exact wpAny_pyNext_enum_end (I.ok.hd hc) he hit p.isList (by simp;ext) λg1 eb=>{rfl,I.turns (t':=s.toks) hf λb o hb q=>eb b o (λz=>hb (by simp[z])) q}
 self:=λ_ _ _ _ _ st h=>let ⟨_,he⟩:=st.1;wpAny_pyIter_enum he h
def Jl (K:yr) (ta:TA):TI:=λU H R=>ta U H λvs H1=>∃a xs,vs=[.ref a]/\aD K H1 a xs/\R (ND K a) H1
def Ae {a:Expr} {ta:TA} {es:List Expr} {kt:Nat} {tp p pos:Pos} (hg:Gl X "enumerate") (hm:X.mg "enumerate"= none) (ha:PA X [a] ta) (hs:starEach [a] X.env=[(false,eval a X.env)]<|>qe_) :
  PI X (.Tuple es kt tp) (.Call (.Name "enumerate" p) [a] [] pos) (Jl X.K ta):=by
 intro pins s U H R I h;refine Call_ (j7 I hg hm A8 (yD (bR (ha pos pins s U H _ I h) λus s1 ⟨vs,H1,I1,r1,q1⟩=>?_) hs rfl));let⟨l,xs,e,hq,q⟩:=q1;subst e;cases r1 with
 | cons r rr=>
  cases rr;cases r;let⟨its,rv,pl,hz⟩:=I1.list hq;refine call_enumerate_list pl.isList λg he hit hsz hk=>?_;refine wpAny_pyIter_enum (s:={s1 with heap:=g}) he ?_;let I2:Inv X pins U H1 {s1 with heap:=g}:=I1.kept (t':=s1.toks) hk;refine{↑s1+1,[↑s1+1,↑s1],_,ND X.K l,H1,rfl,I2,Gh l ↑s1 (↑s1+1) (z9 (xw _)),{{_,by simpa using he},hit},λb hb=>?_,q};let hb':↑s1<=b:=by
   rcases zA.mp hb with z | z
   ·subst z;exact xI _
   ·let z':b=↑s1:=by simpa using z
    subst z';exact zh _
  exact I1.tJ hb' (I1.aT.fresh hb')
def Hu (t:Bool) (K:yr) (H:Hp) (a:wV) (xs:List V):Prop:=match t with
 | true=>cx K H a xs
 | false=>aD K H a xs
def Inv.sq (I:Inv X pins U H s) (h:Hu t X.K H a xs):∃its:List wM,Vals xs its/\fh t s.heap a its.toArray/\⇑xs<=sizeLine:=by
 cases t
 ·let⟨its,r,p,z⟩:=I.list h;exact{(its),r,p.isList,z}
 ·let⟨its,r,p,z⟩:=I.tuple h;exact{(its),r,p,z}
def Inv.HU (I:Inv X pins U H s) (h:Hu t X.K H a xs) (h':Hu t X.K H a ys):xs=ys:=by
 cases t
 ·exact I.qZ h h'
 ·exact I.uz h h'
def fh.lt (x:fh t h a items):a<h.objs.size:=by
 cases t
 ·let⟨o,e,_⟩:=x;exact yo e
 ·let⟨o,e,_⟩:=x;exact yo e
def Qs (t1 t2:Bool) (K:yr) (a b:wV):It:=
  {λi H=>∃xs ys x y,Hu t1 K H a xs/\Hu t2 K H b ys/\xs[i]?=some x/\ys[i]?=some y,
   λi H x H'=>∃p u v,H p=none/\x=.ref p/\H'=upd H p (.tup [u,v])/\(∀xs,Hu t1 K H a xs->xs[i]?=some u)/\∀ys,Hu t2 K H b ys->ys[i]?=some v,
   λi H=>∃xs ys,Hu t1 K H a xs/\Hu t2 K H b ys/\(⇑xs<=i\/⇑ys<=i)}
def HI {P:wO} {w:wQ} {K:yr} {es:List Expr} {kt:Nat} {tp:Pos} (t1 t2:Bool) (a b z TI TO i1 i2:wV) (D:NK z TI TO i1 i2) (L1:JV a z TO i1 i2) (L2:JV b z TO i1 i2) :
  Turn P w K (.Tuple es kt tp) (Qs t1 t2 K a b) [z,TI,TO,i1,i2] z (λi h=>LV t1 t2 h z TI TO i1 i2 a b i .none) where
 mem:=by simp
 obj:=λi h st c hc=>by
  let⟨hz,hi,⟨_,_,ho⟩,h1,h2⟩:=st;simp only[zA,zB,yL] at hc;rcases hc with e | e | e | e | e
  ·subst e;exact{_,hz,λv q=>by cases q}
  ·subst e;exact{_,hi,λv q=>by cases q}
  ·subst e;exact{_,ho,λv q=>by cases q}
  ·subst e;exact h1.get
  ·subst e;exact h2.get
 keep:=λi h h' st k=>{k z (by simp) _ st.z,k TI (by simp) _ st.ti,let ⟨x,y,e⟩:=st.to;{x,y,k TO (by simp) _ e},st.i1.at λo e=>k i1 (by simp) o e,st.i2.at λo e=>k i2 (by simp) o e}
 item:=by
  intro X hP hw hK hc i pins s U H E I hf st hg;subst hP hw hK;let⟨xs,ys,x,y,hq,hq',hx,hy⟩:=hg;let⟨its,rv,p,hz⟩:=I.sq hq;let⟨jts,rw',p',hz'⟩:=I.sq hq';let⟨u,hu,ru⟩:=rv.get hx;let⟨u',hu',ru'⟩:=rw'.get hy;refine HA D L1 L2 st p p' (x:=u) (y:=u') (by simpa using hu) (by simpa using hu') λg1 S1 hT hk=>?_;refine{_,rfl,wpAny_letOwnedTupleGo_zip (s:={s with heap:=g1}) S1.z λg2 z2 hs2=>?_};let zl:z<↑s:=yo st.z;let gT:g2.get? ↑s=some {cls:=.type "tuple",data:=.seq #[u,u']}:=hs2.extBut _ _ (z9 zl) hT;let I1:Inv X pins U (upd H ↑s (.tup [x,y])) {s with heap:=g2}:=
   I.Bz (t':=s.toks) hf (zh _) (λc ob hb q=>hs2.extBut _ _ (λe=>hb (by simp[e])) (hk c ob (λe=>hb (by simp[e])) (λe=>hb (by simp[e])) (λe=>hb (by simp[e])) (λe=>hb (by simp[e])) q))
    {by show 2<=sizeLine;decide,[u,u'],.cons ru (.cons ru' .nil),{_,gT,rfl,_,rfl}}
  refine{.ref ↑s,_,I1,rfl,{_,x,y,I.aT.fresh (zh _),rfl,rfl,λzs h=>by rw[I.HU h hq];exact hx,λzs h=>by rw[I.HU h hq'];exact hy},{z2,hs2.extBut _ _ D.a1 S1.ti,let ⟨x,y,e⟩:=S1.to;{x,y,hs2.extBut _ _ D.a2 e},S1.i1.but hs2 D.a3,S1.i2.but hs2 D.a4},λc hc=>?_};let hb':=(hf c hc).1;obtain⟨o,ho',_⟩:∃o,s.heap.get? c=some o/\True:=by
   obtain⟨hz,hi,⟨_,_,ho⟩,⟨q1,e1,_⟩,⟨q2,e2,_⟩⟩:_/\_/\_/\_/\_:={(st.z),st.ti,st.to,st.i1.get,st.i2.get}
   simp only[zA,zB,yL] at hc;rcases hc with e | e | e | e | e
   ·subst e;exact{_,hz,trivial}
   ·subst e;exact{_,hi,trivial}
   ·subst e;exact{_,ho,trivial}
   ·subst e;exact{_,e1,trivial}
   ·subst e;exact{_,e2,trivial}
  rw[ao (ya (yo ho'))];exact hb'
 done:=by
  intro X hP hw hK hc i pins s U H E I hf st hg;subst hP hw hK;let⟨xs,ys,hq,hq',hx⟩:=hg;let⟨its,rv,p,hz⟩:=I.sq hq;let⟨jts,rw',p',hz'⟩:=I.sq hq';let hl:=⇑rv;let hl':=⇑rw';refine Hz (I.ok.hd hc) D L1 L2 st p p' ?_ λg1 eb=>{rfl,I.turns (t':=s.toks) hf λc o hb q=>eb c o (λe=>hb (by simp[e])) (λe=>hb (by simp[e])) (λe=>hb (by simp[e])) (λe=>hb (by simp[e])) q}
  rcases hx with h | h
  ·exact .inl (by simp;ext)
  ·exact .inr (by simp;ext)
 self:=λ_ _ _ _ _ st h=>wpAny_pyIter_zip st.z h
def Qe (K:yr) (ta:TA):TI:=λU H R=>ta U H λvs H1=>∃t1 t2 a b xs ys,vs=[.ref a,.ref b]/\Hu t1 K H1 a xs/\Hu t2 K H1 b ys/\R (Qs t1 t2 K a b) H1
def IB {a b:Expr} {ta:TA} {es:List Expr} {kt:Nat} {tp p pos:Pos} (hg:Gl X "zip") (hm:X.mg "zip"= none) (ha:PA X [a,b] ta)
  (hs:starEach [a,b] X.env=[(false,eval a X.env),(false,eval b X.env)]<|>qe_) (hs2:starEach [b] X.env=[(false,eval b X.env)]<|>qe_) :
  PI X (.Tuple es kt tp) (.Call (.Name "zip" p) [a,b] [] pos) (Qe X.K ta):=by
 intro pins s U H R I h;refine Call_ (j7 I hg hm Nt (yD (bR (ha pos pins s U H _ I h) λus s1 ⟨vs,H1,I1,r1,q1⟩=>?_) (by rw[hs,hs2]) (by rw[hs2];rfl)));let⟨t1,t2,a,b,xs,ys,e,hq,hq',q⟩:=q1;subst e;cases r1 with
 | cons r rr=>
  cases rr with
  | cons r' rr=>
   cases rr;cases r;cases r';let⟨its,rv,pl,hz⟩:=I1.sq hq;let⟨jts,rv',pl',hz'⟩:=I1.sq hq';let la:=pl.lt;let lb:=pl'.lt;refine HC pl pl' λg S hk=>?_;refine wpAny_pyIter_zip (s:={s1 with heap:=g}) S.z ?_;let I2:Inv X pins U H1 {s1 with heap:=g}:=I1.kept (t':=s1.toks) hk;let D:NK (↑s1+4) (↑s1+2) (↑s1+3) ↑s1 (↑s1+1):=by
    constructor <;> (show _≠(_:Nat)) <;> ext
   let L:∀c,c<↑s1->JV c (↑s1+4) (↑s1+3) ↑s1 (↑s1+1):=λc hc=>by
    constructor <;> (show _≠(_:Nat)) <;> ext
   refine{↑s1+4,[_,_,_,_,_],_,Qs t1 t2 X.K a b,H1,rfl,I2,HI t1 t2 a b _ _ _ _ _ D (L a la) (L b lb),S,λc hc=>?_,q};let hb':↑s1<=c:=by
    simp only[zA,zB,yL] at hc;rcases hc with e | e | e | e | e <;> (subst e;first | exact Nat.le_add_right _ _ | exact zh _)
   exact I1.tJ hb' (I1.aT.fresh hb')
def Ab (bs:List Bool):((List.range ⇑bs).all λi=>(bs[i]?).getD true)=bs.all id:=by
 rw[xr,yf,yf];constructor
 ·intro h b hb
  let⟨i,hi,e⟩:=List.mem_iff_getElem.mp hb;have:=h i (yI.mpr hi);rw[zb hi,e] at this;exact this
 ·intro h i hi
  let hi':=yI.mp hi;rw[zb hi'];exact h _ (yc hi')
def iH (hc:X.calm=true):cZ X (.builtin "all") (λxs H Q=>∃(a:wV) (bs:List Bool),xs=[.ref a]/\aD X.K H a (bs.map V.bl)/\Q (.bl (bs.all id)) H):=by
 intro pins s U H xs us Q I r h;let⟨a,bs,e,hq,q⟩:=h;subst e;cases r with
 | cons r rr=>
  cases rr;cases r;let⟨its,rv,p,hz⟩:=I.list hq;let hlt:a<↑s:=by let⟨o,n,e,_⟩:=p;exact yo e
  let hlen:⇑bs=⇑its:=by have:=⇑rv;rw[za] at this;exact this
  refine call_all_walk (wb p.isList ?_);refine{↑s,[↑s,a],[↑s],its.toArray.size,_,_,λi=>(bs[i]?).getD true,rfl,Walks.list (A:=X.A.in1) (I.ok.hd hc) _ a (ya hlt) its.toArray,
   {{_,yn _ rfl,rfl,rfl},p.isList.push _},λi v s' Q' E' hP hQ=>?_,λh' tk hk=>?_}
  ·let hP':its[i]?=some v:=by simpa using hP
   let hi:i<⇑bs:=by rw[hlen];exact(zt.mp hP').1
   let hm:(bs.map V.bl)[i]?=some (.bl bs[i]):=by rw[zH,zb hi];rfl
   let⟨u,hu,ru⟩:=rv.get hm;rw[hP'] at hu;cases hu;cases ru;dsimp only at hQ;rw[zb hi] at hQ;exact yW hQ
  ·let e:((List.range its.toArray.size).all λi=>(bs[i]?).getD true)=bs.all id:=by rw[zU,<-hlen];exact Ab bs
   rw[e];exact{.bl _,H,I.kept λb o x=>hk b o (λhm=>by rw[zv.mp hm] at x;exact zY _ (yo x)) (yk _ x),rfl,q}
end
section
variable {X:Cx} {pos:Pos}
end
inductive Ty where
 | aU | bl | int | str | tup | lst | OW
def Ty.name:Ty->String
 | .aU=> "NoneType" | .bl=> "bool" | .int=> "int" | .str=> "str" | .tup=> "tuple" | .lst=> "list" | .OW=> "dict"
def tag (H:Hp):V->Option Ty
 | .aU=>some .aU
 | .bl _=>some .bl
 | .int _=>some .int
 | .str _=>some .str
 | .ref a=>match H a with
  | some (.tup _)=>some .tup
  | some (.lst _)=>some .lst
  | some (.jF _ (.lst _))=>some .lst
  | some (.dK _)=>some .OW
  | some (.dT _)=>some .OW
  | _=>none
 | _=>none
def Fj {H:Hp} {a:wV} {xs:List V} (h:H a=some (.tup xs)):tag H (.ref a)=some .tup:=by simp only[tag,h]
def Kf {H:Hp} {a:wV} {xs:List V} (h:H a=some (.lst xs)):tag H (.ref a)=some .lst:=by simp only[tag,h]
def Mg {K:yr} {H:Hp} {x:V} {n:Ty} (h:tag H x=some n):ou K H x (.type n.name):=by
 cases x with
 | aU=>cases h;exact .aU
 | bl b=>cases h;exact .bl b
 | int i=>cases h;exact .int i
 | str y=>cases h;exact .str y
 | F1 _=>cases h
 | K2 _=>cases h
 | ty _=>cases h
 | ref a=>
  simp only[tag] at h;split at h
  ·cases h;exact .tup ‹_›
  ·cases h;exact .lst ‹_›
  ·cases h;exact .jF ‹_›
  ·cases h;exact .dK ‹_›
  ·cases h;exact .dT ‹_›
  ·cases h
def Ty.sub:Ty->Ty->Bool
 | .bl,.bl=>true | .int,.int=>true | .str,.str=>true | .tup,.tup=>true | .lst,.lst=>true | .OW,.OW=>true | .aU,.aU=>true
 | .bl,.int=>true
 | _,_=>false
def KR (K:yr) (a b:Ty):PySem.W.kitOne K (.type a.name) (.type b.name)=some (a.sub b):=by
 cases a <;> cases b <;> first | rfl | decide +kernel | kernel_rfl
def PX (c:Ty) (ta:TE):TE:=λU H Q=>ta U H λx H1=>∃n,tag H1 x=some n/\Q (.bl (n.sub c)) H1
section
variable {X:Cx}
def fj (c:Ty) (hx:bootBuiltins x=some (.type c.name)) (ha:PE X a ta) (hm:X.mg "isinstance"= none) (hm2:X.mg x=none)
  (hg:Gl X "isinstance"<|>qe_) (hg2:Gl X x<|>qe_) (hn:x≠ "__name__"<|>qb_) (hd:(x == ("__debug__": Str))=false<|>qb_)
  (hs:starEach [a,.Name x p2] X.env=(false,eval a X.env)::starEach [.Name x p2] X.env<|>qe_) (hs2:starEach [.Name x p2] X.env=[(false,eval (.Name x p2) X.env)]<|>qe_) :
  PE X (.Call (.Name "isinstance" p1) [a,.Name x p2] [] pos) (PX c ta):=by
 let hc:cZ X (.builtin "isinstance") (λxs H Q=>∃v n,xs=[v,.ty c.name]/\tag H v=some n/\Q (.bl (n.sub c)) H):=by
  intro pins s U H xs us Q I r h;let⟨v,n,e,ht,q⟩:=h;subst e;cases r with
  | cons r rr=>
   cases rr with
   | cons r' rr=>
    cases rr;cases r';exact GO I r (Mg ht) (KR _ _ _) λtk=>{.bl _,H,I.tok tk,rfl,q}
 let hb:PE X (.Name x p2) (tC (.ty c.name)):=FF (u:=.type c.name) hg2 hm2 hx rfl hn hd;let ht:=Cb (p:=p1) (pos:=pos) hc hg hm (by decide +kernel) (aa ha (aa hb af hs2) hs) (he:=hs) (hpl:=by rw[hs2];rfl);intro pins s U H Q I h;let mono:ta U H (λx H1=>∃n,tag H1 x=some n/\Q (.bl (n.sub c)) H1)->uB (λxs H Q=>∃v n,xs=[v,.ty c.name]/\tag H v=some n/\Q (.bl (n.sub c)) H) (aF ta (aF (tC (.ty c.name)) bK)) U H Q:=λz=>by
  show ta U H λx H1=>∃v n,[x,V.ty c.name]=[v,.ty c.name]/\tag H1 v=some n/\Q (.bl (n.sub c)) H1;let e:(λx H1=>∃n,tag H1 x=some n/\Q (.bl (n.sub c)) H1)=(λ(x:V) (H1:Hp)=>∃v n,[x,V.ty c.name]=[v,V.ty c.name]/\tag H1 v=some n/\Q (.bl (n.sub c)) H1):=by
   funext x H1
   apply propext;constructor
   ·rintro⟨n,h1,h2⟩;exact{(x),n,rfl,h1,h2}
   ·rintro⟨v,n,e,h1,h2⟩;cases e;exact{(n),h1,h2}
  rw[<-e];exact z
 exact ht pins s U H Q I (mono h)
end
inductive Dt where
 | aU | bl (b:Bool) | int (i:Int) | str (x:Str) | tup (l:List Dt)
mutual
def Is (H:Hp):Dt->V->Prop
 | .aU,v=>v=.aU
 | .bl b,v=>v=.bl b
 | .int i,v=>v=.int i
 | .str x,v=>v=.str x
 | .tup l,v=>∃a vs,v=.ref a/\H a=some (.tup vs)/\ar H l vs
def ar (H:Hp):List Dt->List V->Prop
 | [],vs=>vs=[]
 | d::l,vs=>∃v r,vs=v::r/\Is H d v/\ar H l r
end
mutual
theorem Is.mono (s:au H H'):∀{d:Dt} {v:V},Is H d v->Is H' d v
 | .aU,_,h=>by unfold Is at h ⊢;exact h
 | .bl _,_,h=>by unfold Is at h ⊢;exact h
 | .int _,_,h=>by unfold Is at h ⊢;exact h
 | .str _,_,h=>by unfold Is at h ⊢;exact h
 | .tup l,_,h=>by
  unfold Is at h ⊢;let⟨a,vs,e,ha,hl⟩:=h;exact{a,vs,e,s _ _ ha,ar.mono s hl}
theorem ar.mono (s:au H H'):∀{l:List Dt} {vs:List V},ar H l vs->ar H' l vs
 | [],_,h=>by unfold ar at h ⊢;exact h
 | d::l,_,h=>by
  unfold ar at h ⊢;let⟨v,r,e,hv,hr⟩:=h;exact{v,r,e,Is.mono s hv,ar.mono s hr}
end
theorem ar.len:∀{l:List Dt} {vs:List V},ar H l vs->⇑vs=⇑l
 | [],_,h=>by unfold ar at h;rw[h];rfl
 | d::l,_,h=>by
  unfold ar at h;let⟨v,r,e,_,hr⟩:=h;rw[e,zo,zo,ar.len hr]
theorem ar.get:∀{l:List Dt} {vs:List V} {i:Nat} {v:V},ar H l vs->vs[i]?=some v->∃d,l[i]?=some d/\Is H d v
 | [],_,i,v,h,e=>by unfold ar at h;rw[h] at e;simp at e
 | d::l,_,i,v,h,e=>by
  unfold ar at h;let⟨u,r,e1,hv,hr⟩:=h;subst e1;cases i with
  | zero=>simp at e;subst e;exact{(d),rfl,hv}
  | succ i=>
   let⟨d',h1,h2⟩:=ar.get (i:=i) hr (by simpa using e);exact{d',by simpa using h1,h2}
def au.Aq (e:upd H p o=H') (h:H p=none):au H H':=e▸cj h
def Bb (e:upd H p o=H'):H' p=some o:=e▸aA
def bF {c:Bool} {A B:Prop} (h:c=true) (q:A):if c=true then A else B:=by rw[yF h];exact q
def bG {c:Bool} {A B:Prop} (h:c=false) (q:B):if c=true then A else B:=by rw[yE (by rw[h];decide)];exact q
def di:⇑[a,b]<=sizeLine:=by show 2<=sizeLine;decide
def qq:⇑[a,b,c]<=sizeLine:=by show 3<=sizeLine;decide
def AA (h:H p=some (.tup [.int a,.int b])):Is H (.tup [.int a,.int b]) (.ref p):=by
 unfold Is;exact{p,_,rfl,h,by simp only[ar,Is];exact{_,_,rfl,rfl,_,_,rfl,rfl,rfl}}
def rk {K:yr} {a:wV} {xs:List V} {g:TG} {tb:TS} {D:Ends} {U:St} {H:Hp} (Pv:Nat->St->Hp->Prop) (h0:Pv 0 U H) (hl:∀i U H,i<=⇑xs->Pv i U H->aD K H a xs)
  (hs:∀i x U H p H',xs[i]?=some x->Pv i U H->au H H'->H' p=some (.tup [.int (i:Int),x])->g (.ref p) U H' λU2 H2=>tb {D with nx:=Pv (i+1),ct:=Pv (i+1),bk:=D.nx} U2 H2) (hd:∀U H,Pv ⇑xs U H->D.nx U H) :
  ∃W:Nat->Nat->St->Hp->Prop,(∃m,W 0 m U H)/\∀i m U H,W i m U H->
   ((ND K a).stop i H/\D.nx U H)\/((ND K a).go i H/\∃N:St->Hp->Prop,(∀U' H',N U' H'->∃m',m'<m/\W (i+1) m' U' H')/\∀x H',(ND K a).HD i H x H'->g x U H' λU2 H2=>tb {D with nx:=N,ct:=N,bk:=D.nx} U2 H2):=by
 refine{λi m U H=>m=⇑xs-i/\i<=⇑xs/\Pv i U H,{⇑xs,by simp,zZ _,h0},?_};rintro i m U H ⟨rfl,hi,p⟩;let q:=hl i U H hi p
 by_cases hlt:i<⇑xs
 ·refine .inr {{xs,xs[i],q,by simp[hlt]},Pv (i+1),λU' H' p'=>{⇑xs-(i+1),(),rfl,hlt,p'},λx H' y=>?_}
  let⟨pp,v,hp,e1,e2,y⟩:=y;subst e1 e2;exact hs i v U H pp _ (y xs q) p (cj hp) aA
 ·let e:i=⇑xs:=()
  subst e;exact .inl {{xs,q,zh _},hd U H p}
section
variable {X:Cx} {pos:Pos}
def Inv.OF (I2:Inv X pins U2 H2 s2) (hC:↑s2<=C) (I:Inv X pins U H s) (hn:H C=none) (hs:Heap.SameBut C s.heap h'):Inv X pins U H {s with heap:=h'}:=by
 let⟨f0,f1,f2,f3,f4,f5⟩:=I2.tJ hC hn;exact I.turned (t':=s.toks) (λb o hb e=>hs.extBut b o hb e) f0 f1 f3 f4 f5
end
section
variable {X:Cx} {pins:List (wV×Obj)} {U:St} {H:Hp} {s:wN}
def Sz (n:Nat) (i:Int):Prop:=i.natAbs<2^n
def Sz.mono (h:Sz n i) (k:n<=m):Sz m i:=zV h (Nat.pow_le_pow_right ∅ k)
def Sz.mul (h:Sz n i) (k:Sz m j):Sz (n+m) (i*j):=by
 unfold Sz at *;rw[Int.natAbs_mul,Nat.pow_add];exact Nat.mul_lt_mul'' h k
def Sz.add (h:Sz n i) (k:Sz n j):Sz (n+1) (i+j):=by
 unfold Sz at *;have:=Int.natAbs_add_le i j;rw[Nat.pow_succ];ext
def Sz.le (h:Sz n j) (h0:0<=i) (hl:i<=j):Sz n i:=by
 unfold Sz at *;have:i.natAbs<=j.natAbs:=()
 ext
def Sz.bits (h:Sz n i):Builtin.Int.intBits i<=n:=by
 unfold Builtin.Int.intBits;split
 ·exact zZ _
 ·rename_i hz
  have:i.natAbs≠0:=by
   intro e;have:i=0:=Int.natAbs_eq_zero.mp e;subst this;exact hz rfl
  have:=(Nat.log2_lt this).mpr h;ext
def O6 (i j:Int):Prop:=Sz 20000 i/\Sz 20000 j
def O7 (_ j:Int):Prop:=0<j/\Sz 8999 j
def mL:ng X (binaryOp .Mult) (rI O6 λi j=>.int (i*j)):=NI λ_ _ _ _ _ _ _ hc q=>mul_int q (.of_bits (zJ hc.1.bits ∅) (zJ hc.2.bits ∅))
def mP:ng X (binaryOp .FloorDiv) (rI O7 λi j=>.int (i/j)):=NI λi j _ _ _ _ _ hc q=>by
 let h1:(0:Int)<j:=hc.1;refine floordiv_int () (by rw[wJ i ()];exact q) (.inl (PyProof.noPylong_of_log2 ?_));let h2:j.natAbs<2^8999:=hc.2;let h3:j.natAbs≠0:=()
 exact xm ((Nat.log2_lt h3).mpr h2) ∅
def JN {ns:List Int} {j:Int} (h0:0<=j) (h1:j<⇑ns):Bu (ns.map V.int) j=some (.int (ns.getD j.toNat 0)):=by
 let⟨k,rfl⟩:=yC h0;refine aQ ?_;let hk:k<⇑ns:=()
 rw[zH,zb hk];simp[List.getD,hk]
end
section
variable {X:Cx} {pos:Pos}
def Iu (K:yr):R2:=λx y H Q=>∃l b xs zs,x=.ref l/\y=.ref b/\aD K H l xs/\aD K H b zs/\⇑xs+⇑zs<=sizeLine/\∀p,H p=none->Q (.ref p) (upd H p (.lst (xs++zs)))
def cN:ng X (binaryOp .Add) (Iu X.K):=by
 intro pins s U H x y v u Q I rx ry h;let⟨l,b,xs,zs,rfl,rfl,hH,hB,hz,q⟩:=h;cases rx;cases ry;let⟨its,r,p,z⟩:=I.list hH;let⟨jts,r',p',z'⟩:=I.list hB;let l1:=⇑r;let l2:=⇑r';let⟨⟨cls,dd,data,sl⟩,ho,hc,n,hd⟩:=id p.isList;let⟨⟨cls2,dd2,data2,sl2⟩,ho2,hc2,n2,hd2⟩:=id p'.isList;simp only at hc hd hc2 hd2;subst hc hd hc2 hd2;refine concat_meets {_,ho,rfl} {_,ho2,rfl} noFill_list_add seq_list_add PySem.F.slot_list_add PySem.F.entry_list_add (PySem.F.args_list_add_2 _ _) (list_addW l b its.toArray jts.toArray n n2 dd dd2 sl sl2 (by rw[zU,zU];ext)) {ho,ho2,?_};let ea:its.toArray++jts.toArray=(its++jts).toArray:=by simp
 rw[ea];exact{.ref _,_,I.OE (t':=s.toks) (r.append r') (by rw[ze];ext),rfl,q _ I.fresh}
end
def pH (n:Nat) (x:Int×Int):Prop:=Sz n x.1/\Sz n x.2
theorem pH.red (ht:0<=t) (hb:0<b) (h1:Sz n t) (h2:Sz n b):pH n (Lm.red t b):=by
 let⟨g,g0,_,_,p,l⟩:=Lm.iS (t:=t) hb;exact{h1.le (Lm.Eb ht) (Lm.qE ht),h2.le (yS p) l}
theorem pH.add (hx:Lm.Rd x) (hy:Lm.Rd y) (h:pH n x) (k:pH m y):pH (n+m+1) (Lm.add x y):=by
 let⟨a,b,_⟩:=hx.pos;let⟨c,d,_⟩:=hy.pos;refine pH.red (Int.add_nonneg (xK a ()) (xK c ())) (xh b d) ?_ ((h.2.mul k.2).mono ());refine Sz.add (h.1.mul k.2) ?_;have:=k.1.mul h.2;rw[Nat.add_comm] at this;exact this
def dec (n:Int):Str:=Str.ofString (toString n)
def iO {x y:Str} (h:x.cps.toList=y.cps.toList):x=y:=by
 cases x;cases y;simp only[Str.mk.injEq];exact Array.toList_inj.mp h
def b3 (x y:Str):(x++y).cps.toList=x.cps.toList++y.cps.toList:=Array.toList_append ..
def len_app (x y:Str):⇑(x++y)=⇑x+⇑y:=Array.size_append ..
def oo (x y z:Str):x++y++z=x++(y++z):=iO (by rw[b3,b3,b3,b3,zC])
def pR (m:Nat):(dec (m:Int)).cps.toList=(Nat.toDigits 10 m).map Char.toNat:=PySem.W.KIN.signs_num m
def AM (m:Nat):⇑(dec (m:Int))=⇑(Nat.toDigits 10 m):=by
 let h:=yQ List.length (pR m);rw[za,yH] at h;exact h
def La (h:c∈(Nat.toDigits 10 m).map Char.toNat):48<=c/\c<=57:=by
 let⟨ch,hc,e⟩:=zE.mp h;let r:=Nat.isDigit_of_mem_toDigits ∅ ∅ hc;rw[<-e];simp only[Char.isDigit,zL,decide_eq_true_eq] at r;exact{(r.1),r.2}
section
variable {X:Cx}
end
section
variable {X:Cx}
def P4:V->Option Int->Option Int->Hp->VK->Prop:=λx lo hi H Q=>∃t:Str,x=.str t/\⇑t<=sizeLine/\Q (.str (PySem.Txt.slice t lo hi)) H
def Mu:JS X P4:=by
 intro pins s U H x v vl vu lo hi sl Q I rx hs pl pu h;let⟨t,rfl,hz,q⟩:=h;let⟨tk,rfl⟩:=rx;let⟨o,ho,hc,hd⟩:=hs;let fin:∀(l u:Option (Int×Tok)),l.map (·.1)=lo->u.map (·.1)=hi->partValue l=vl->partValue u=vu->
   ∃T id,typeLookup (.type T) "__getitem__"= pure (some (.builtin id))/\s.TypeIs (.str t tk) T/\wpAny (model X.prog X.w) X.A (getItem (.str t tk) (.ref sl)) (EP X pins U Q) X.xe s:=by
  intro l u e1 e2 e3 e4;subst e1 e2 e3 e4;exact{"str",_,F.slot_str_getitem.lookup,wk _ _ _,wpAny_getItem_str_slice (l:=l) (u:=u) (st:=none) {(o),ho,hc,hd} rfl
   (post_val_or_str {zJ (PySem.Txt.slice_le t _ _) hz,λt' k=>{.str _,H,I.tok _,{_,rfl},q}})}
 cases pl with
 | none=>
  cases pu with
  | none=>exact fin none none rfl rfl rfl rfl
  | int j tj=>exact fin none (some (j,tj)) rfl rfl rfl rfl
 | int i ti=>
  cases pu with
  | none=>exact fin (some (i,ti)) none rfl rfl rfl rfl
  | int j tj=>exact fin (some (i,ti)) (some (j,tj)) rfl rfl rfl rfl
def O4 (x:Str):It:={λi _=>i<⇑x,λi H v H'=>H'=H/\∃c,x.cps[i]?=some c/\v=.str {#[c]},λi _=>⇑x<=i}
def HJ {P:wO} {w:wQ} {K:yr} {tg:Expr} (x:Str) (t:Tok) (it:wV) (ty:String) (hty:ty ="str_ascii_iterator"\/ty ="str_iterator"):Turn P w K tg (O4 x) [it] it (λi h=>i<=⇑x/\h.IsStrIter it ty x t i) where
 mem:=by simp
 obj:=λi h st b hb=>by
  let e:b=it:=by simpa using hb
  subst e;let⟨_,o,e,c,d⟩:=st;exact{o,e,λv z=>by rw[d] at z;cases z}
 keep:=λi h h' st k=>{st.1,let ⟨o,ho,r⟩:=st.2;{o,k it (by simp) o ho,r}}
 item:=by
  intro X hP hw hK hc i pins s U H E I hf st hg;subst hP hw hK;let W:Walks X.prog X.w X.A it [it] [it] x.cps.size (SignAt x) (λi h=>h.IsStrIter it ty x t i):=by
   rcases hty with rfl | rfl
   ·exact Walks.strAscii (I.ok.hd hc) it x t
   ·exact Walks.strWide (I.ok.hd hc) it x t
  refine W.item i s _ _ hg st.2 λv h' tk hv z' kk=>?_;let⟨c,u,hcx,rfl⟩:=hv;let I1:Inv X pins U H {s with heap:=h',toks:=tk}:=I.turns hf λb o hb e=>kk b o (by simpa using hb) e;let⟨o,e,cc,d⟩:=id z';let hgl:i<⇑x:=hg;refine{_,rfl,va (s:={s with heap:=h',toks:=tk}) (n:=ty) e cc d ?_ {.str {#[c]},H,I1,{(u),rfl},{(rfl),c,hcx,rfl},{(hgl),z'},λb hb=>(hf b hb).1}};rcases hty with rfl | rfl <;> decide
 done:=by
  intro X hP hw hK hc i pins s U H E I hf st hg;subst hP hw hK;let hi:i=x.cps.size:=Nat.le_antisymm st.1 hg;subst hi;let W:Walks X.prog X.w X.A it [it] [it] x.cps.size (SignAt x) (λi h=>h.IsStrIter it ty x t i):=by
   rcases hty with rfl | rfl
   ·exact Walks.strAscii (I.ok.hd hc) it x t
   ·exact Walks.strWide (I.ok.hd hc) it x t
  exact W.done s _ _ st.2 λh' tk eb=>{rfl,I.turns hf λb o hb e=>eb b o (by simpa using hb) e}
 self:=λA i s Q E z h=>by
  rcases hty with rfl | rfl
  ·exact wpAny_pyIter_striter_ascii z.2 h
  ·exact wpAny_pyIter_striter_wide z.2 h
def Qg (tl:TE):TI:=λU H R=>tl U H λx H1=>∃t,x=.str t/\R (O4 t) H1
def IC {tg l:Expr} {tl:TE} (hl:PE X l tl):PI X tg l (Qg tl):=by
 intro pins s U H R I h;refine bR (hl pins s U H _ I h) λv s1 zz=>?_;let⟨x,H1,I1,r1,q1⟩:=zz;let⟨t,e,q⟩:=q1;subst e;let⟨tk,rfl⟩:=r1;refine wpAny_pyIter_strU ?_;refine{↑s1,[↑s1],_,_,H1,rfl,I1.kept (t':=s1.toks) λb o e=>yk _ e,HJ t tk _ (strIterType t) ?_,{zZ _,_,yn _ rfl,rfl,rfl},λb hb=>?_,q}
 ·unfold strIterType
  split
  ·exact .inl rfl
  ·exact .inr rfl
 ·let e:b=↑s1:=by simpa using hb
  subst e;exact I1.tJ (zh _) (I1.aT.fresh (zh _))
theorem uw:∀(l:List (Str×Tok)),Vals ((l.map (·.1)).map V.str) (strValues l)
 | []=>.nil
 | (x,t)::r=>.cons {(t),rfl} (uw r)
def Mz:V->List V->Hp->VK->Prop:=λx vs H Q=>∃(t y:Str),x=.str t/\vs=[.str y]/\⇑y=1/\⇑t+2<=sizeLine/\∀l,H l=none->Q (.ref l) (upd H l (.lst ((PySem.Txt.split t y).map V.str)))
def gh:NC X "str.split" Mz:=by
 intro pins s U H x vs v us Q I rx rv h;let⟨t,y,rfl,rfl,hy,hz,q⟩:=h;let⟨tk,rfl⟩:=rx;let⟨u,rfl,tk',rfl⟩:=rv.one;let hy':(⇑y == 0)=false:=by rw[hy];rfl
 let hle:=split_le t y;let fin:∀(l:List (Str×Tok)) (k:Nat),l.map (·.1)=PySem.Txt.split t y->
   EP X pins U Q (.ref ↑s) {s with heap:=s.heap.push {cls:=.type "list",data:=.seq (strValues l).toArray},toks:=k}:=λl k e=>
  {.ref _,_,I.OE (t':=k) (by rw[<-e];exact uw l) (by rw[za];ext),rfl,q _ I.fresh}
 cases h1:(decide (⇑t<⇑y)||decide (Builtin.Str.strKind t<Builtin.Str.strKind y))
 ·cases hf:(Builtin.Str.occurrences t y 0 ⇑t (⇑t+1)).isEmpty
  ·let es:PySem.Txt.split t y=Builtin.Str.partsBetween t (Builtin.Str.occurrences t y 0 ⇑t (⇑t+1)) ⇑y:=by
    unfold PySem.Txt.split;rw[h1,hf];rfl
   refine xW F.slot_str_split (wk s t tk) F.entry_str_split (F.args_str_split_2 _ _) (meets_str_split_sep t y tk tk' h1 hy' hf () (by rw[<-es];ext)) ?_;rw[strsFrom_eq];exact fin (numbered s.toks _) _ ((numbered_texts _ _).trans es.symm)
  ·let es:PySem.Txt.split t y=[t]:=by
    unfold PySem.Txt.split;rw[h1,hf];rfl
   refine xW F.slot_str_split (wk s t tk) F.entry_str_split (F.args_str_split_2 _ _) (meets_str_split_not_found t y tk tk' h1 hy' hf) ?_;exact fin [(t,tk)] _ es.symm
 ·let es:PySem.Txt.split t y=[t]:=by
   unfold PySem.Txt.split;rw[h1];rfl
  refine xW F.slot_str_split (wk s t tk) F.entry_str_split (F.args_str_split_2 _ _) (meets_str_split_cannot_occur t y tk tk' h1) ?_;exact fin [(t,tk)] _ es.symm
def Ku:V->List V->Hp->VK->Prop:=λx vs H Q=>∃(t y:Str),x=.str t/\vs=[.str y]/\Q (.bl (decide (0+⇑y<=⇑t)&&Builtin.Str.subAt t y 0)) H
def tH:NC X "str.startswith" Ku:=by
 intro pins s U H x vs v us Q I rx rv h;let⟨t,y,rfl,rfl,q⟩:=h;let⟨tk,rfl⟩:=rx;let⟨u,rfl,tk',rfl⟩:=rv.one;exact xW F.slot_str_startswith (wk s t tk) F.entry_str_startswith (F.args_str_startswith_2 _ _) (gives_str_startswith t y tk tk').meets {.bl _,H,I,rfl,q}
def A3:cZ X (.type "int") (λxs H Q=>∃(t:Str) (n:Int),xs=[.str t]/\PySem.intText? t=some n/\⇑t<=640/\Q (.int n) H):=by
 intro pins s U H xs us Q I r h;let⟨t,n,rfl,hn,hl,q⟩:=h;let⟨u,rfl,tk,rfl⟩:=vals1 r;exact PySem.W.KIN.call_text hn hl {.int n,H,I.tok _,{_,rfl},q}
end
def join_one (sep x:Str):Str.join sep [x]=x:=rfl
def dQ (sep x y:Str) (r:List Str):Str.join sep (x::y::r)=x++sep++Str.join sep (y::r):=rfl
theorem CF:∀{ps qs:List Str},ps≠[]->qs≠[]->(∀p∈ps,c∉p.cps.toList)->(∀q∈qs,c∉q.cps.toList)->Str.join {#[c]} ps=Str.join {#[c]} qs->ps=qs
 | [],_,h,_,_,_,_=>absurd rfl h
 | _,[],_,h,_,_,_=>absurd rfl h
 | [p],[q],_,_,_,_,h=>by rw[join_one,join_one] at h;rw[h]
 | [p],q::q2::r,_,_,hp,_,h=>by
  rw[join_one,dQ] at h;let e:=yQ (λz:Str=>z.cps.toList) h;simp only[b3] at e;exact absurd (show c∈p.cps.toList by rw[e];simp) (hp p zk)
 | p::p2::r,[q],_,_,_,hq,h=>by
  rw[join_one,dQ] at h;let e:=yQ (λz:Str=>z.cps.toList) h;simp only[b3] at e;exact absurd (show c∈q.cps.toList by rw[<-e];simp) (hq q zk)
 | p::p2::r,q::q2::r',_,_,hp,hq,h=>by
  rw[dQ,dQ] at h;let e:=yQ (λz:Str=>z.cps.toList) h;simp only[b3,zC] at e;let⟨e1,e2⟩:=Lm.FX (hp p zk) (hq q zk) (show p.cps.toList++c::(Str.join {#[c]} (p2::r)).cps.toList=q.cps.toList++c::(Str.join {#[c]} (q2::r')).cps.toList from e);let ih:=CF (ps:=p2::r) (qs:=q2::r') (by simp) (by simp) (λz hz=>hp z (zj _ hz)) (λz hz=>hq z (zj _ hz)) (iO e2);rw[ih,iO e1]
def eJ (ne:ps≠[]) (fr:∀p∈ps,c∉p.cps.toList):PySem.Txt.split (Str.join {#[c]} ps) {#[c]}=ps:=by
 refine CF ?_ ne (PySem.StrLaws.split_free _ c) fr (PySem.StrLaws.join_split _ _);intro z;have:=split_pos (Str.join {#[c]} ps) {#[c]};rw[z] at this;exact absurd this ∅
def vM (ha:c∉a.cps.toList) (hb:c∉b.cps.toList):PySem.Txt.split (a++{#[c]}++b) {#[c]}=[a,b]:=by
 refine eJ (ps:=[a,b]) (by simp) λp hp=>?_;rcases zA.mp hp with rfl | hp
 ·exact ha
 ·rw[zv.mp hp];exact hb
def split1 (ha:c∉a.cps.toList):PySem.Txt.split a {#[c]}=[a]:=by
 refine eJ (ps:=[a]) (by simp) λp hp=>?_;rw[zv.mp hp];exact ha
def Ms (ha:c∉a.cps.toList) (hb:c∉b.cps.toList) (hd:c∉d.cps.toList):PySem.Txt.split (a++{#[c]}++b++{#[c]}++d) {#[c]}=[a,b,d]:=by
 let e:a++({#[c]}:Str)++b++⟨#[c]⟩++d=Str.join ⟨#[c]⟩ [a,b,d]:=by
  rw[dQ,dQ,join_one];simp only[oo]
 rw[e];refine eJ (ps:=[a,b,d]) (by simp) λp hp=>?_;rcases zA.mp hp with rfl | hp
 ·exact ha
 rcases zA.mp hp with rfl | hp
 ·exact hb
 ·rw[zv.mp hp];exact hd
def pQ (h:n<0):dec n ="-" ++ dec (-n):=by
 obtain⟨m,rfl⟩:∃m:Nat,n=Int.negSucc m:={(-n-1).toNat,()}
 refine iO ?_;rw[b3];let e1:(dec (Int.negSucc m)).cps.toList=("-" ++ toString (m+1)).toList.map Char.toNat:=PyProof.Rows.signs_ofString _;let e2:(dec (-(Int.negSucc m))).cps.toList=(toString (m+1)).toList.map Char.toNat:=PyProof.Rows.signs_ofString _;rw[e1,e2,String.toList_append,zg];rfl
def iF {n:Nat} {c:Nat} (h:c∈(dec (n:Int)).cps.toList):48<=c/\c<=57:=by
 rw[pR] at h;exact La h
def G0 {n:Nat} (h:(dec (n:Int)).cps[0]?=some 48):⇑(dec (n:Int))=1:=by
 rcases Nat.eq_zero_or_pos n with rfl | hn
 ·rw[AM];decide
 ·let⟨c,r,e,hc⟩:=Lm.Jn n hn
  rw[<-yY,pR,e] at h;simp only[zf,List.getElem?_cons_zero,xt] at h;exact absurd (Char.toNat_inj.mp (by rw[h];rfl)) hc
def CW {n:Nat}:1<=⇑(dec (n:Int)):=by
 rw[AM];exact PySem.toDigits_len_ge 10 n
def vh {n k:Nat} (hk:0<k) (h:n<10^k):⇑(dec (n:Int))<=k:=by rw[AM];exact Lm.MX hk h
def M9 (a:Option Int) (n:Nat):Builtin.Str.strSliceIndices a none 1 n=Builtin.Str.strSliceIndices a (some (n:Int)) 1 n:=by
 let h:¬((n:Int)<0):=()
 let e:max (0:Int) (min (n:Int) (n:Int))=n:=()
 simp only[Builtin.Str.strSliceIndices,h,xS,e,show((1:Int)>0)=True from by simp,wB]
def Gp (x:Str) (hab:a<=b) (hb:b<=⇑x):(PySem.Txt.slice x (some (a:Int)) (some (b:Int))).cps.toList=(x.cps.toList.drop a).take (b-a):=by
 unfold PySem.Txt.slice;split
 ·rename_i h
  rw[PySem.StrLaws.strSliceIndices_plain hab hb] at h;simp only[xO,yM,wD,za,zO] at h;let hl:⇑x.cps.toList=⇑x:=yH;let ea:a=0:=()
  let eb:b-a=⇑x.cps.toList:=()
  rw[eb,ea,List.drop_zero,zK]
 ·exact PySem.StrLaws.sliced_plain x hab hb
def DT (x:Str) (h:a<=⇑x):(PySem.Txt.slice x (some (a:Int)) none).cps.toList=x.cps.toList.drop a:=by
 let e:PySem.Txt.slice x (some (a:Int)) none=PySem.Txt.slice x (some (a:Int)) (some ((⇑x:Nat):Int)):=by
  unfold PySem.Txt.slice;rw[M9]
 let hl:⇑x.cps.toList=⇑x:=yH;rw[e,Gp x h (zh _),xc (by rw[xj];ext)]
def iZ {K:yr} {mg:Str->Option wM} {base:wW} {x:Str} {C:wV} {bm:List wM} {newId:String} (P:wO) (m:Mod K mg base) (e:PySem.W.nsIn K mainGlobals x=some (some (.ref C)))
  (q:PySem.W.excIn K C bm newId=true):OwnCls x C bm newId mg base:=by
 let⟨mb,hb,hbb⟩:=m.blt;let⟨o0,es0,ep0,hg0,hd0,sk0,look⟩:=m.glob;let fr:∀y,y∉(es0.toList.filterMap λ(d:DictEntry)=>match d.key with | .str z _=>some z | _=>none)->mg y=none:=λy hy=>by
  rw[<-look y];show(es0.find? λd=>d.key.isStr y).map (·.val)=none;cases hf:es0.find? λd=>d.key.isStr y with
  | none=>rfl
  | some d=>
   exfalso;let hm:=Array.mem_of_find?_eq_some hf;let hk:=Array.find?_some hf;let⟨z,t,ez⟩:=sk0 d hm;let ezy:z=y:=by rw[ez] at hk;exact eq_of_beq (show(z == y)=true from hk)
   exact hy (wI.mpr {d,by simpa using hm,by rw[ez,ezy]})
 exact PySem.W.own_of_in (p:=P) (loose:=es0.toList.filterMap λ(d:DictEntry)=>match d.key with | .str z _=>some z | _=>none) m.KW {m.glob,hb,m.nolimit,hbb,λy _ hl _ _ _=>fr y hl} e q
structure DD (P:wO) (w:wQ) (fs:List wV) (H H':Hp) (h B h':wW):Prop where
 keep:∀b o,h.get? b=some o->H b=none->b∉fs->B.get? b=some o
 slot:∀b o,h.get? b=some o->H b=none->b∈fs->∃sl,h'.get? b=some {o with slots:=sl}
 free:∀b o,h.get? b=some o->H b=none->H' b=none
 there:∀b o,h.get? b=some o->b∉fs->∃o',B.get? b=some o'
 jA:∀b xs,H b=some (.tup xs)->H' b=some (.tup xs)
 iE:∀b o u,H b=some (.jF o u)->H' b=some (.jF o u)
 jB:∀b ps,H b=some (.HL ps)->∃more,H' b=some (.HL (ps++more))
 aT:kQ P w H' B
 gs:B.StaysIn h'
section
variable {P:wO} {w:wQ} {fs:List wV} {H H':Hp} {h B h' h2:wW}
def DD.un (f:DD P w fs H H' h B h') (AG:∀b∈fs,H b=none):Un fs [] H H' h h' where
 keep:=λb o e n hb _=>f.gs b o (f.keep b o e n hb)
 slot:=λb o e n hb _=>f.slot b o e n hb
 free:=λb o e n _=>f.free b o e n
 there:=λb o e _=>by
  by_cases hb:b∈fs
  ·let⟨sl,q⟩:=f.slot b o e (AG b hb) hb
   exact{_,q}
  ·let⟨o',q⟩:=f.there b o e hb
   exact{o',f.gs b o' q}
 jA:=f.jA
 iE:=f.iE
 jB:=f.jB
def DD.on (f:DD P w fs H H' h B h') (u:h'.UpToSlots h2) (st:B.StaysIn h2) (nf:∀b∈fs,∃o,h'.get? b=some o/\∀vs,o.data≠.fields vs):DD P w fs H H' h B h2:=
 {f.keep,λb o e n hb=>by
  let⟨sl,q⟩:=f.slot b o e n hb;let⟨o1,q1,nd⟩:=nf b hb;rw[q] at q1;cases q1;let⟨sl2,q2⟩:=u b _ q nd;exact{(sl2),q2},f.free,f.there,f.jA,f.iE,f.jB,f.aT,st}
end
def DB (P:wO) (w:wQ):DC:=λouter H s E e s'=>∃(a:wV) (cls a0:wM) (B:wW) (H':Hp),e=.ref a/\s'.os=s.os/\AllBare s'.gens/\Heap.FlyingW B outer a cls a0 s'.heap/\DD P w (gr outer) H H' s.heap B s'.heap/\E cls none H'
def rj (hf:env.frame=some L):gr (env::outer)=L::gr outer:=by
 unfold gr;rw[wy,hf]
def Mi (C:wV) (te:TA) (E:XK):TS:=λ_ U H=>te U H λvs H1=>⇑vs<=sizeLine/\E (.ref C) none H1
section
variable {P:wO} {w:wQ} {K:yr} {mg:Str->Option wM} {base:wW} {N:List Str} {qual:Str} {scope:Scope} {f:wV} {cdv:wM} {A:wR} {outer:List Env} {s₀:wN} {H₀:Hp} {E:XK}
def B7
  (hC0:PySem.W.nsIn K mainGlobals x=some (some (.ref C))) (hQ0:PySem.W.excIn K C bm newId=true) (FB:ExcBaseFacts Bn newId initId bm) (hg:Gl (fq (DB P w) P w K mg base N qual scope f cdv A outer s₀ H₀ E) x)
  (ha:PA (fq (DB P w) P w K mg base N qual scope f cdv A outer s₀ H₀ E) (e₀::es) ta) (hd:(x == ("__debug__": Str))=false<|>qb_)
  (hs:starEach (e₀::es) (fq (DB P w) P w K mg base N qual scope f cdv A outer s₀ H₀ E).env=(false,eval e₀ (fq (DB P w) P w K mg base N qual scope f cdv A outer s₀ H₀ E).env)::starEach es (fq (DB P w) P w K mg base N qual scope f cdv A outer s₀ H₀ E).env<|>qe_)
  (hpl:(backTo cpos (starEach es (fq (DB P w) P w K mg base N qual scope f cdv A outer s₀ H₀ E).env)).any (·.1)=false<|>qe_) :
  PS (fq (DB P w) P w K mg base N qual scope f cdv A outer s₀ H₀ E) (.Raise (some (.Call (.Name x np) (e₀::es) [] cpos)) none pos) (Mi C ta E):=by
 intro pins s U H D I h;let O:OwnCls x C bm newId mg base:=iZ P I.ok.mod hC0 hQ0;let⟨tl,Nn,nm,q,bs,hdct,sn,sub,ab,col,dd,k0,k1,k2,k3,k5,mN,hC,hN,hni,T⟩:=O.obj;refine wpAny_Raise_call_subT (C:=C) (nm:=nm) (q:=q) (N:=Nn) (bs:=bs) (bm:=tl) (hdct:=hdct) (sn:=sn) (sub:=sub) (ab:=ab) (col:=col) (dd:=dd) (k0:=k0) (k1:=k1) (k2:=k2) (k3:=k3) (k5:=k5)
  FB (mN:=mN) (T.hasType FB.hasBase) (I.ok.hd rfl) (by rw[hs];show(false||(backTo cpos (starEach es (fq (DB P w) P w K mg base N qual scope f cdv A outer s₀ H₀ E).env)).any (·.1))=false;rw[hpl];rfl) hni (d6 I hg O.bound {rfl,?_} hd)
 let hA:=ha cpos pins s U H _ I h;rw[hs] at hA ⊢;refine Calls.evalArgs_plain (yV hA (λus s2 ⟨vs,H2,I2,r2,hl,q2⟩=>{rfl,?_,I2.bk _ _ hC,hN.keeps I2.bk,T.keeps I2.bk,λh' e mk=>?_}) λ_ _ y=>y)
 ·show ⇑us<=sizeLine
  rw[<-⇑r2];exact hl
 show wpAny (model P w) (A.deeper (envOfC qual scope ↑s₀ f cdv)) (leaving (envOfC qual scope ↑s₀ f cdv) (.ref e)) (λ_ s''=>DB P w outer H₀ s₀ E (.ref e) s'') (λe' s''=>DB P w outer H₀ s₀ E e' s'') {s2 with heap:=h'};let hfr:gr (envOfC qual scope ↑s₀ f cdv::outer)=↑s₀::gr outer:=rj rfl;let hst:s2.heap.FunFrames base (envOfC qual scope ↑s₀ f cdv::outer):=I2.stack;let hin:∀env∈(envOfC qual scope ↑s₀ f cdv::outer),∀a,env.frame=some a->a∈gr (envOfC qual scope ↑s₀ f cdv::outer):=λenv he a hf=>wI.mpr {(env),he,hf};let hl:=PySem.W.funFrames_hide (as:=gr (envOfC qual scope ↑s₀ f cdv::outer)) hst hin;refine wpAny_leaves_madeW (base:=PySem.W.hideAll s2.heap (gr (envOfC qual scope ↑s₀ f cdv::outer))) (h:=s2.heap) I2.ok.frames rfl (λb o q=>PySem.W.of_hideAll _ q) hl mk (λh'' t fl _ _ ups=>?_);let low:∀b o,s₀.heap.get? b=some o->b≠↑s₀:=λb o e z=>absurd (yo e) (by rw[z];exact zY _);let nin:∀b o,s₀.heap.get? b=some o->b∉gr outer->b∉gr (envOfC qual scope ↑s₀ f cdv::outer):=λb o e n z=>by
  rw[hfr] at z;rcases zA.mp z with z | z
  ·exact low b o e z
  ·exact n z
 let jC:∀b:wV,b∉(fq (DB P w) P w K mg base N qual scope f cdv A outer s₀ H₀ E).ex:=λb z=>absurd (show b∈([]:List wV) from z) (by simp);refine{e,.ref C,.ref t,_,H2,rfl,I2.os,I2.bare,fl,{λb o q n hb=>wx _ (I2.base.keep b o q n hb (jC b)) (nin b o q hb),λb o q n hb=>?_,λb o q n=>I2.base.free b o q n (jC b),λb o q hb=>?_,I2.base.jA,I2.base.iE,I2.base.jB,λa o q=>?_,fl.1},q2}
 ·let⟨sl,e1⟩:=I2.base.slot b o q n hb (jC b)
  let⟨_,o1,e2,nd⟩:=I2.ok.kf.mem hb;let e3:=mk.keeps _ _ e1;let e2':s₀.heap.get? b=some o1:=e2;rw[q] at e2';cases e2';let⟨sl2,e4⟩:=ups b _ e3 nd;exact{(sl2),e4}
 ·let⟨o',e1⟩:=I2.base.there b o q (jC b)
  exact{o',wx _ e1 (nin b o q hb)}
 ·refine(I2.aT a o q).gs (λb u hb e1=>wx _ e1 λz=>?_) (λ_ z=>z) λ_ _ z=>z
  let n:=I2.iP b z;rcases hb with rfl | hb
  ·rw[q] at n;cases n
  ·rw[hb] at n;cases n
def Hm.QQ {x:Str} {st:Stmt} {fd:wU} {ps:List Str} {k:Nat} {sp:Sp} (F:Hm K x qual st f fd) (S:cQ N ps (aC st)) (len:∀vs H Q E,sp vs H Q E->⇑vs=⇑ps)
  (hbody:∀(cdv:wM) (A:wR) (outer:List Env) (s:wN) (H:Hp) (vs:List V) (Q:VK) (E:XK),df k (A.deeper (envOfC qual (aC st) ↑s f cdv))->sp vs H Q E->
   ∃t,uk (fq (DB P w) P w K mg base N qual (aC st) f cdv A outer s H E) (aV st) t/\t {nx:=λ_ H'=>Q .aU H',rt:=Q} (start N vs) H):bL P w K mg base (DB P w) (k+1) f fd ps sp:=by
 let⟨oc,od,kV,doc,pm,an,cdv,ct,osl,rfl,lk,hcd⟩:=F.ex;exact Jt lk hcd S len λA outer s H vs Q E hr hsp=>hbody cdv A outer s H vs Q E hr hsp
end
abbrev Cx.held (X:Cx) (e:wM):Cx:={X with A:=X.A.mark (some e),calm:=false}
theorem Cx.Ok.held {X:Cx} (ok:X.Ok) (e:wM):(X.held e).Ok:=
 {ok.mod,ok.kind,ok.glob,ok.blt,ok.above,ok.inj,ok.has,ok.Nr,λz=>(nomatch (show false=true from z)),ok.frames,ok.NH,ok.Pe,ok.bs,ok.Hr,ok.jC,ok.EA,ok.kf,ok.AG}
def Cx.Ok.gU {X:Cx} {e:wM} (ok:(X.held e).Ok) (hd:X.calm=true->X.A.handled=none):X.Ok:=
 {(ok.mod),ok.kind,ok.glob,ok.blt,ok.above,ok.inj,ok.has,ok.Nr,hd,ok.frames,ok.NH,ok.Pe,ok.bs,ok.Hr,ok.jC,ok.EA,ok.kf,ok.AG}
section
variable {X:Cx} {pins:List (wV×Obj)} {U:St} {H:Hp} {s:wN} {e:wM}
theorem Inv.held (I:Inv X pins U H s) (e:wM):Inv (X.held e) pins U H s:={I.ok.held e,I.os,I.bare,I.base,I.loc,I.cell,I.free,I.gi,I.pin,I.aT,I.len}
theorem Inv.gU (I:Inv (X.held e) pins U H s) (hd:X.calm=true->X.A.handled=none):Inv X pins U H s:={I.ok.gU hd,I.os,I.bare,I.base,I.loc,I.cell,I.free,I.gi,I.pin,I.aT,I.len}
theorem SP.gU (hd:X.calm=true->X.A.handled=none) (h:SP (X.held e) pins D f s'):SP X pins D f s':=by
 cases f with
 | next=>let⟨U',H',I,q⟩:=h;exact{U',H',I.gU hd,q}
 | brk=>let⟨U',H',I,q⟩:=h;exact{U',H',I.gU hd,q}
 | cont=>let⟨U',H',I,q⟩:=h;exact{U',H',I.gU hd,q}
 | ret u=>let⟨v,U',H',I,r,q⟩:=h;exact{v,U',H',I.gU hd,r,q}
end
def N3 (i:Nat) (sp:Sp) (t:TA) (C:wV) (th:TS):TS:=λD U H=>t U H λvs H1=>sp vs H1 (λv H2=>bH i v U H2 D.nx) λcls _ H2=>cls=.ref C/\th D U H2
section
variable {X:Cx} {k:Nat} {f:wV} {fd:wU} {ps:List Str} {sp:Sp} {fx cn x:Str} {p pos cpos pa tpos np hpos:Pos} {e₀:Expr} {es:List Expr} {t:TA} {i:Nat} {C:wV} {bm:List wM} {newId:String} {b₀:Stmt} {suite:List Stmt} {th:TS}
def Ky (F:bL X.prog X.w X.K X.mg X.base (DB X.prog X.w) k f fd ps sp) (hr:df k X.A) (hg:Gl X fx) (hm:X.mg fx=some (.ref f)) (hk:PySem.W.keepIn X.K (.ref f)=true) (hb:Binds X.K fd ps []) (ha:PA X.Bt (e₀::es) t)
  (hc:X.calm=true) (hN:X.N.Nodup) (hi:X.N[i]?=some x) (hx:Loc X.env.scope x) (hgc:Gl X cn) (hC0:PySem.W.nsIn X.K mainGlobals cn=some (some (.ref C))) (hQ0:PySem.W.excIn X.K C bm newId=true) (hbase:bm.contains (.type "BaseException")=true) (hstk:X.stack=X.env::X.outer) (hfrm:X.env.frame=some X.env.locals)
  (hsu:∀e,uk (X.held e).Bt (b₀::suite) th)
  (hdb:(fx == ("__debug__": Str))=false<|>qb_) (hdc:(cn == ("__debug__": Str))=false<|>qb_) (he:starEach (e₀::es) X.env=(false,eval e₀ X.env)::starEach es X.env<|>qe_) (hpl:(backTo cpos (starEach es X.env)).any (·.1)=false<|>qe_)
  (hs:swapsWith (.Call (.Name fx p) (e₀::es) [] cpos) (some (.Name x tpos)) pa.line X.env=pure false<|>qe_) (hf:X.fn x=true\/X.env.scope.names.lookup x=some .local<|>qa_) :
  PS X (.Try [.Assign [.Name x tpos] (.Call (.Name fx p) (e₀::es) [] cpos) pa] [.ExceptHandler (some (.Name cn np)) none (b₀::suite) hpos] [] [] pos) (N3 i sp t C th):=by
 intro pins s U H D I h;let O:OwnCls cn C bm newId X.mg X.base:=iZ X.prog I.ok.mod hC0 hQ0;refine wpAny_Try_except (wpAny_execs_cons ?_);refine wpAny_Assign_Name ?_ hs;refine y8 (d6 I hg hm ?_ hdb);let hA:wpAny (model X.prog X.w) X.A (spliced (backTo cpos (starEach (e₀::es) X.env))) (AP X.Bt pins U _) (λ_ _=>False) s:=ha cpos pins s U H _ (I.kR _) h;refine wG (h₀:=X.base) I.ok.mod.KW hk (yV hA (λus s1 ⟨vs,H1,I1',r,q⟩=>{I1'.ie,?_}) λ_ _ z=>z.elim) he hpl;let I1:Inv X pins U H1 s1:=I1'.dX;let hl:⇑us=⇑ps:=by rw[<-⇑r];exact F.len _ _ _ _ q
 refine wpAny_call (xA (F.run X.A X.stack s1 H1 {us,[]} us vs _ _ hr I1.GY (by have:=hb s1 us I1.ie (by rw[zQ];exact hl);rw[zQ] at this;exact this) r q) λrr s' hq=>?_);cases rr with
 | ok fl=>
  cases fl with
  | ret u=>
   let⟨v,H2,I2,r2,q2⟩:=I1.after hq;refine ig I2 hN hi hx r2 (λs2 I3=>?_) hf;exact xU (xU {_,H2,I3,q2})
  | next=>exact False.elim hq
  | brk=>exact False.elim hq
  | cont=>exact False.elim hq
 | error ev=>
  let⟨a,cls,a0,B,H',rfl,os,bare,fl,fly,⟨rfl,q2⟩⟩:=hq;let AG:∀b∈gr X.stack,H1 b=none:=I1.iP;let nf:∀{hh:wW},Heap.FunFrames hh B X.stack->∀b∈gr X.stack,∃o,hh.get? b=some o/\∀vs,o.data≠.fields vs:=λhF b hb=>(hF.mem hb).2;let back:∀(hh:wW),DD X.prog X.w (gr X.stack) H1 H' s1.heap B hh->Inv X pins U H' {s' with heap:=hh}:=λhh fy=>
   I1.F0 (s':={s' with heap:=hh}) (ch:=[]) os (fy.un AG) (fy.aT.kept fy.gs) bare λb z=>absurd z (by simp)
  let hfr:X.A.frames=some (X.env::X.outer):=by rw[<-hstk];exact I1.ok.frames
  refine wpAny_looks_onW hfr hfrm (by rw[<-hstk];exact fl) λh4 held4 up4=>?_;refine wpAny_landsW held4 λh5 fl5 up5=>?_;let fl5':Heap.FlyingW B X.stack a (.ref C) a0 h5:=by rw[hstk];exact fl5
  let fy5:DD X.prog X.w (gr X.stack) H1 H' s1.heap B h5:=fly.on (up4.trans up5) fl5.1 (nf fl.2.2.1);let I5:=back h5 fy5;let⟨ob,hob,hobc⟩:=fl5'.there;let⟨tl,Nn,nm,qn,bs,hdct,sn,sub,ab,col,dd,k0,k1,k2,k3,k5,mN,hC,hN',hni,T⟩:=O.obj;refine wpAny_handleBy_cons (codeAny_handlers_test (d6 (X:=X.held (.ref a)) (I5.held _) hgc O.bound ?_ hdc)) (by intro q;cases q);refine wpAny_excMatches_sub_self (I5.bk _ _ hC) hob hobc (T.hasType hbase) (codeAny_handlers_suite ?_);refine lands_againW fl5' λh6 fl6 up6=>?_;let fy6:DD X.prog X.w (gr X.stack) H1 H' s1.heap B h6:=fy5.on up6 fl6.1 (nf fl5'.2.2.1);let I6:=back h6 fy6;refine yV (hsu (.ref a) pins _ U H' D ((I6.held _).kR _) q2) (λfl s7 z=>?_) λ_ _ z=>z.elim;exact SP.gU I.ok.hd (SP.dX z)
end
section
variable {X:Cx}
def HS {zs:List Str} {its:List wM} (r:Vals (zs.map V.str) its) {j:Nat} (h:j<⇑its):∃z t,zs[j]?=some z/\its[j]=.str z t:=by
 let hl:⇑zs=⇑its:=by have:=⇑r;rw[za] at this;exact this
 let⟨u,hu,ru⟩:=r.get (i:=j) (x:=.str (zs[j]'())) (by rw[zH,zb ()];rfl);let⟨t,rfl⟩:=ru;rw[zb h] at hu;exact{_,t,zb (),yb hu}
end
structure gS (K:yr) (D:wV):Prop where
 ga:PySem.W.findIn K (.ref D) "__getattribute__"= some (some (.builtin "BaseException.__getattribute__"))
 Qy:PySem.W.findIn K (.ref D) "__getattr__"= some none
 ca:PySem.W.findIn K (.ref D) "__class__"= some (some (.builtin "object.__class__"))
 mB:PySem.W.mroIn K D (.type "BaseException")=some true
 mO:PySem.W.mroIn K D (.type "object")=some true
def rQ {K:yr} {D:wV} {b:wM} {r:Bool} (h:PySem.W.mroIn K D b=some r):(PySem.W.clsIn K D).isSome=true:=by
 unfold PySem.W.mroIn at h;let⟨cd,e,_⟩:=Option.bind_eq_some_iff.mp h;rw[e];rfl
def gS.cl {K:yr} {D:wV} (Z:gS K D):(PySem.W.clsIn K D).isSome=true:=rQ Z.mO
def Je {K:yr} {D:wV} {n:String} {b:Bool} (h:PySem.W.subIn K (.ref D) (.type n)=some b) (hm:PySem.W.kitMeta n=true):PySem.W.kitOne K (.ref D) (.type n)=some b:=by
 unfold PySem.W.kitOne;rw[yE (by simp)];unfold PySem.W.kitCls;dsimp only;rw[yF hm];exact h
def KS {K:yr} {D C:wV} {b:Bool} (h:PySem.W.subIn K (.ref D) (.ref C)=some b) (ne:D≠C) (hm:PySem.W.mroIn K C (.type "object")=some true) (ht:PySem.W.typeIn K (.ref C)=some (.type "type")):PySem.W.kitOne K (.ref D) (.ref C)=some b:=by
 unfold PySem.W.kitOne;rw[yE (by simp[ne])];unfold PySem.W.kitCls;dsimp only;rw[yF (by rw[rQ hm,ht];rfl)];exact h
def Jf {K:yr} {D:wV}:PySem.W.kitOne K (.ref D) (.ref D)=some true:=by unfold PySem.W.kitOne;rw[yF (by simp)]
def KU {K:yr} {t:wM}:PySem.W.kitAny K t []=some false:=rfl
def j9 {K:yr} {t c:wM} {r:List wM} {b:Bool} (h:PySem.W.kitOne K t c=some false) (h':PySem.W.kitAny K t r=some b):PySem.W.kitAny K t (c::r)=some b:=by
 unfold PySem.W.kitAny;rw[h];exact h'
structure jz (K:yr) (D C:wV):Prop where
 sub:PySem.W.subIn K (.ref D) (.ref C)=some false
 ob:PySem.W.mroIn K C (.type "object")=some true
 ty:PySem.W.typeIn K (.ref C)=some (.type "type")
def jz.OG {K:yr} {D C:wV} (n:jz K D C) (self:PySem.W.subIn K (.ref D) (.ref D)=some true):PySem.W.kitOne K (.ref D) (.ref C)=some false:=
 KS n.sub (λe=>by subst e;have:=n.sub;rw[self] at this;cases this) n.ob n.ty
section
variable {K:yr} {D x:wV} {prog:wO} {w:wQ} {A:wR} {E:wM->wN->Prop} {h:wW} {g:Array GenState} {d:Drawn} {t:Nat} {os:OsState}
def CP {M:Model} {o:Obj} (hx:h.get? x=some o) (hc:o.cls=.ref D):PySem.W.Looks M h (typeOf (.ref x)) (.ref D):=hc▸(PySem.W.Looks.ld hx).andThen .now
open Builtin Builtin.ObjectAttr Builtin.Getset_descriptor in
def Nh {o:Obj} {R:Result->wN->Prop} {tp:wM} (X:K.In h) (Z:gS K D) (hx:h.get? x=some o) (hc:o.cls=.ref D) (hq:R (.ok (.ret (.ref D))) {(h),g,d,t,os}) :
  codeAny (model prog w) A (.call (.builtin "getset_descriptor.__get__") {[.builtin "object.__class__",.ref x,tp],[]}) R {(h),g,d,t,os}:=by
 let L0:=CP (M:=model prog w) hx hc;let L1:=PySem.W.looks_mroIn (M:=model prog w) X Z.mO;refine codeAny_call_builtin PySem.W.KF.slot_gs.plain PySem.W.KF.entry_gs (PySem.W.KF.slot_gs.check _ _ _ _ _ _ _ _ PySem.W.KF.type_class (PySem.W.KF.args_gs _ _ _) ?_);unfold Builtin.«getset_descriptor.__get__» descrGet;rw[PySem.W.dga_obj];refine yj (ym ?_);unfold descrGetter descrCheckInstance descrNameAndClass isInstance;simp only[PySem.W.KF.owner_class]
 repeat (open PySem.W in lk)
 refine{Code.quiet_builtin _ (by decide +kernel),xD PySem.W.KF.entry_class ?_};unfold Builtin.«object.__class__» shownTypeOf
 repeat (open PySem.W in lk)
 exact hq
def Jx {o:Obj} {tk:Tok} {Q:Fin->wN->Prop} (X:K.In h) (Z:gS K D) (hx:h.get? x=some o) (hc:o.cls=.ref D) (hq:Q (.done (.ret (.ref D))) {(h),g,d,t,os}) :
  wpAny (model prog w) A (Builtin.«object.__getattribute__» {[.ref x,.str "__class__" tk],[]}) Q E {(h),g,d,t,os}:=by
 let hT5:({(h),g,d,t,os}:wN).TypeIs (.builtin "object.__class__") "getset_descriptor":=F.typeOf_object_class;let f5:=F.typeOf_object_class;let f6:=F.slot_gs_get.lookup;let f7:=F.slot_gs_set.lookup;let L1:=PySem.W.looks_findIn (M:=model prog w) X Z.ca
 repeat (any_goals (first | assumption | (with_reducible refine wpAny_loadPart_at hx ?_;rw[hc]) | (with_reducible refine L1.at ?_) | wp_step))
 refine Nh X Z hx hc ?_
 repeat (any_goals (first | assumption | wp_step))
def CQ {M:Model} {o:Obj} {nameV:wM} {Q:Unit->wN->Prop} (X:K.In h) (Z:gS K D) (hx:h.get? x=some o) (hc:o.cls=.ref D) (hq:Q .unit {(h),g,d,t,os}) :
  wpAny M A (checkBuiltinCall "BaseException.__getattribute__" {[.ref x,nameV],[]}) Q E {(h),g,d,t,os}:=by
 let hk:builtinKind "BaseException.__getattribute__"= some .slot:=by decide +kernel
 let hsplit:splitId "BaseException.__getattribute__"= some ("BaseException","__getattribute__"):=by decide +kernel
 let L1:=PySem.W.looks_mroIn (M:=M) X Z.mB;let ha:=F.args_bexc_ga (.ref x) nameV;simp only[checkBuiltinCall,hk,hsplit];refine yj ?_
 ·unfold isInstance
  repeat (first | (with_reducible refine wpAny_loadPart_at hx ?_;rw[hc]) | (with_reducible refine L1.at ?_) | wp_step)
  exact hq
def OP {o:Obj} {tk:Tok} {fill expr:Bool} {Q:wM->wN->Prop} (X:K.In h) (Z:gS K D) (hx:h.get? x=some o) (hc:o.cls=.ref D) (hq:Q (.ref D) {(h),g,d,t,os}) :
  wpAny (model prog w) A (getAttrBy (.ref x) (.str "__class__" tk) fill expr) Q E {(h),g,d,t,os}:=by
 let f3:=F.attr_ValueError.ga.bind (.ref x);let hx0:(expr&&onTheHeap (Value.builtin "BaseException.__getattribute__"))=false:=by cases expr <;> rfl
 let hx2:(Value.builtin "BaseException.__getattribute__"== Value.builtin "object.__getattribute__")=false:=by decide +kernel
 let hx1:(onTheHeap (Value.ref D)&&Value.builtin "BaseException.__getattribute__"== Value.builtin "object.__getattribute__")=false:=by rw[hx2];rfl
 let L1:=PySem.W.looks_findIn (M:=model prog w) X Z.ga;let L2:=PySem.W.looks_findIn (M:=model prog w) X Z.Qy
 repeat (any_goals (first | assumption | (with_reducible refine wpAny_loadPart_at hx ?_;rw[hc]) | (with_reducible refine L1.at ?_) | (with_reducible refine L2.at ?_) | wp_step))
 refine codeAny_call_builtin F.attr_ValueError.ga.plain F.entry_bexc_ga (CQ X Z hx hc (Jx X Z hx hc ?_))
 repeat (any_goals (first | assumption | wp_step))
def Jy {o:Obj} {Q:Option wM->wN->Prop} {s:wN} (X:K.In s.heap) (Z:gS K D) (hx:s.heap.get? x=some o) (hc:o.cls=.ref D) (hq:Q (some (.ref D)) {s with toks:=s.toks+1}) :
  wpAny (model prog w) A (getAttr? (.ref x) "__class__") Q E s:=by
 let⟨h,g,d,t,os⟩:=s;unfold getAttr? getAttrBy?;refine yj (wpAny_mkText (yj (wm ?_)));refine OP X Z hx hc ?_;exact ym hq
def K5 {M:Model} {S:wV} {o:Obj} {ddS:Option wV} {cdS:ClassData} {slS:Array (Option wM)} {Q:Bool->wN->Prop} (X:K.In h) (hx:h.get? x=some o) (hc:o.cls=.ref D) (hS:K.lookup S=some {.type "type",ddS,.cls cdS,slS}) (hSB:PySem.W.mroIn K S (.type "BaseException")=some true)
  (hup:PySem.W.mroIn K D (.ref S)=some true) (hq:Q true {(h),g,d,t,os}):wpAny M A (excMatches (.ref x) (.ref S)) Q E {(h),g,d,t,os}:=by
 let L1:=PySem.W.looks_mroIn (M:=M) X hSB;let L2:=PySem.W.looks_mroIn (M:=M) X hup;let hS':=X _ _ hS;let noTuple:=tc_notTuple;unfold excMatches
 repeat (first
  | (with_reducible refine wpAny_loadPart_at hx ?_;rw[hc])
  | (with_reducible refine wpAny_loadPart_at hS' ?_)
  | (with_reducible refine L1.at ?_)
  | (with_reducible refine L2.at ?_)
  | wp_step)
 exact hq
def ES {S:wV} {bm:List wM} {n:String} (e:PySem.W.excIn K S bm n=true):∃dd cd sl,K.lookup S=some {.type "type",dd,.cls cd,sl}:=by
 unfold PySem.W.excIn at e;split at e
 ·exact{_,_,_,‹_›}
 ·cases e
def FK (Z:gS K D):PySem.W.KitX K (.ref x) (.ref D) (λh=>∃o,h.get? x=some o/\o.cls=.ref D) where
 ty:=λ_ _ _ ⟨o,hx,hc⟩=>CP hx hc
 it:=λ_ _ X _=>by
  let hcD:=Z.cl;unfold PySem.W.clsIn at hcD;split at hcD
  ·rename_i c' d' cd' sl' ho
   intro A' Q' E' s' k q;unfold isType loadHead;exact yj (wpAny_loadPart (k _ _ (X _ _ ho)) (ym q))
  ·cases hcD
 ne:=λh tp dd its n sl X htp=>by
  let hcD:=Z.cl;refine Bool.eq_false_iff.mpr λq=>?_;let e:D=tp:=Value.ref.inj (wD.mp q);subst e;unfold PySem.W.clsIn at hcD;split at hcD
  ·rename_i c' d' cd' sl' ho
   let z:=(X _ _ ho).symm.trans htp;cases z
  ·cases hcD
 ca:=λX ⟨o,hx,hc⟩ k=>Jy X Z hx hc k
end
section
variable {X:Cx}
theorem ux:∀{cs:List wV} {us:List wM},Vals (cs.map V.ref) us->us=cs.map Value.ref
 | [],_,.nil=>rfl
 | c::cs,_,.cons r t=>by
  cases(show _=Value.ref c from r);rw[ux t];rfl
end
def aW.here (x:aW P w H h a o):∃ob,h.get? a=some ob:=by
 cases o with
 | lst xs=>let⟨_,_,_,_,e⟩:=x;exact{_,e}
 | tup xs=>let⟨_,_,_,o,e,_⟩:=x;exact{_,e}
 | dK kvs=>let⟨_,_,_,_,o,_,_,e,_⟩:=x;exact{_,e}
 | dT kvs=>let⟨_,_,_,_,o,_,_,e,_⟩:=x;exact{_,e}
 | set S n=>let⟨o,_,_,_,e,_⟩:=x;exact{_,e}
 | ins C dx fs=>let⟨_,_,_,e,_⟩:=x;exact{_,e}
 | own y=>exact x
 | xd fs=>let⟨_,⟨_,_,_,e,_⟩,_⟩:=x;exact{_,e}
 | Mw lo hi=>let⟨_,_,_,e⟩:=x;exact{_,e}
 | jF ob u=>let⟨e,_⟩:=x;exact{_,e}
 | HL ps=>exact{_,x}
 | met f y=>exact{_,x}
 | ext φ=>exact x.2.1
section
variable {X:Cx} {pins:List (wV×Obj)} {U:St} {H:Hp} {s:wN}
def Inv.NZ (I:Inv X pins U H s) (hn:H a=none) (h0:X.s₀.heap.get? a=none) (hl:a≠X.env.locals) (hc:∀x c,X.env.cells.lookup x=some c->c≠a) (hp:∀p∈X.pn++pins,p.1≠a)
  (new:aW X.prog X.w (upd H a o) s.heap a o):Inv X pins U (upd H a o) s where
 ok:=I.ok
 os:=I.os
 bare:=I.bare
 base:={I.base.keep,I.base.slot,λb ob e n hx=>by rw[ao (λz=>by rw[z,h0] at e;cases e)];exact I.base.free b ob e n hx,I.base.there,
  λb xs e=>by have:=I.base.jA b xs e;rw[ao (aL this hn)];exact this,λb ob u e=>by have:=I.base.iE b ob u e;rw[ao (aL this hn)];exact this,
  λb ps e=>by let⟨m,e1⟩:=I.base.jB b ps e;exact{m,by rw[ao (aL e1 hn)];exact e1}}
 loc:=I.loc
 cell:=I.cell
 free:=by rw[ao (Ne.symm hl)];exact I.free
 gi:=λx c e=>by rw[ao (hc x c e)];exact I.gi x c e
 pin:=λp hpp=>by let⟨e,n,ne,nf,d⟩:=I.pin p hpp;exact{e,by rw[ao (hp p hpp)];exact n,ne,nf,d}
 aT:=λb u e=>by
  by_cases hb:b=a
  ·subst hb
   rw[aA] at e;cases e;exact new
  ·rw[ao hb] at e
   refine(I.aT b u e).gs (λ_ _ _ q=>q) (λc q=>?_) λc xs q=>?_
   ·rw[ao (aL q hn)];exact q
   ·rw[ao (aL q hn)];exact q
 len:=I.len
def Inv.Ka {h':wW} {n:Str} {j:Nat} {v:Option wM} {m:Str->Option wM} {t':Nat} (I:Inv X pins U H s) (hN:X.N.Nodup) (hj:X.N[j]?=some n) (hl:∀(i:Nat) (x:Str) (v:V),X.N[i]?=some x->U[i]?=some (some v)->LW X.env.scope x->∃u,RelV v u/\Look X.env s.heap m x u) (hn:h'.Ns X.env.locals (λx=>if x=n then v else m x)) (hs:Heap.SameBut X.env.locals s.heap h') :
  Inv X pins (U.set j none) H {s with heap:=h',toks:=t'}:=by
 let FY:=I.FY;refine{I.ok,I.os,I.bare,{λb o e n hb hx=>?_,λb o e n hb hx=>?_,I.base.free,λb o e hx=>?_,I.base.jA,I.base.iE,I.base.jB},{_,hn,λi y v' e1 e2 e3=>?_},λy c e=>?_,I.free,I.gi,λp hp=>?_,λb ob e=>?_,by simpa using I.len}
 ·exact(hs.2 b (ya (zV (yo e) I.ok.above))).trans (I.base.keep b o e n hb hx)
 ·let⟨sl,e1⟩:=I.base.slot b o e n hb hx
  exact{sl,(hs.2 b (ya (zV (yo e) I.ok.above))).trans e1}
 ·let⟨o',e1⟩:=I.base.there b o e hx
  exact{o',(hs.2 b (ya (zV (yo e) I.ok.above))).trans e1}
 ·by_cases hi:i=j
  ·subst hi
   rw[List.getElem?_set] at e2;split at e2
   ·split at e2 <;> cases e2
   ·rename_i z;exact absurd rfl z
  ·rw[List.getElem?_set_ne (Ne.symm hi)] at e2
   let⟨u',r',q⟩:=hl i y v' e1 e2 e3;refine{u',r',?_};rcases q with⟨k,e⟩ | ⟨k,c,e,z⟩
   ·refine .inl {k,?_}
    have:y≠n:=λe=>hi (qV hN e1 (e▸hj));simp[this,e]
   ·exact .inr {k,c,e,z.sameBut hs (FY y c e)}
 ·let⟨w',z⟩:=I.cell y c e
  exact{w',z.sameBut hs (FY y c e)}
 ·let⟨e,n,ne,nf,d⟩:=I.pin p hp
  exact{(hs.2 p.1 ne).trans e,n,ne,nf,d}
 ·refine(I.aT b ob e).gs (λc w' hc q=>(hs.2 c ?_).trans q) (λ_ q=>q) λ_ _ q=>q
  rintro rfl;rcases hc with rfl | hc
  ·rw[I.free] at e;cases e
  ·rw[I.free] at hc;cases hc
end
def PH (j:Nat) (D:Ends):Ends:={nx:=λU H=>D.nx (U.set j none) H,rt:=D.rt,bk:=λU H=>D.bk (U.set j none) H,ct:=λU H=>D.ct (U.set j none) H}
section
variable {X:Cx} {k:Nat} {f:wV} {fd:wU} {ps:List Str} {sp:Sp} {fx cn n x:Str} {p pos cpos pa tpos np hpos:Pos} {e₀:Expr} {es:List Expr} {t:TA} {i j:Nat} {C S:wV} {bm bmS:List wM} {newId newIdS:String} {b₀:Stmt} {suite:List Stmt} {th:TS}
end
end L2
namespace L2
open PySem PySem.Spec PyProof.Rows
section
variable {κ:Type} [DecidableEq κ]
def cS (kvs:List (κ×V)) (k:κ):Option V:=(kvs.find? λkv=>decide (kv.1=k)).map (·.2)
def putK (kvs:List (κ×V)) (k:κ) (v:V):List (κ×V):=
 if(kvs.any λkv=>decide (kv.1=k))=true then kvs.map (λkv=>if kv.1=k then(kv.1,v) else kv) else kvs++[(k,v)]
def pU {p:κ×V} {r:List (κ×V)} {k:κ} (e:p.1=k):cS (p::r) k=some p.2:=by simp[cS,yJ,e]
def pV {p:κ×V} {r:List (κ×V)} {k:κ} (e:¬p.1=k):cS (p::r) k=cS r k:=by simp[cS,yJ,e]
theorem pW (k:κ):∀kvs:List (κ×V),(kvs.any λkv=>decide (kv.1=k))=(cS kvs k).isSome
 | []=>rfl
 | p::r=>by
  rw[y9]
  by_cases e:p.1=k
  ·simp only[pU e,zd e,Bool.true_or,Option.isSome_some]
  ·rw[pV e,zc e,Bool.false_or];exact pW k r
def oP (kvs:List (κ×V)) (k:κ) (v:V):⇑(putK kvs k v)<=⇑kvs+1:=by
 unfold putK;split
 ·rw[za];ext
 ·rw[ze,zo,y7];ext
def Iw {kvs:List (κ×V)} {k:κ} (v:V) (h:cS kvs k=none):putK kvs k v=kvs++[(k,v)]:=by
 unfold putK;rw[pW,h];exact yE ∅
def dU.iB (r:dU o u):o.isSome=u.isSome:=by
 cases o with
 | none=>cases u with
  | none=>rfl
  | some _=>exact(show False from r).elim
 | some _=>cases u with
  | none=>exact(show False from r).elim
  | some _=>rfl
theorem dU.getD (r:dU o u) (rd:RelV d d'):RelV (o.getD d) (u.getD d'):=by
 cases o with
 | none=>cases u with
  | none=>exact rd
  | some _=>exact(show False from r).elim
 | some _=>cases u with
  | none=>exact(show False from r).elim
  | some _=>exact r
def KV.val {kvs:List (κ×V)} {vs:List (κ×wM)} (r:KV kvs vs) (k:κ):dU (cS kvs k) (valueAt vs k):=by
 unfold KV at r
 induction r with
 | nil=>exact True.intro
 | @cons p q ps qs h t ih=>
  let⟨h1,h2⟩:=h
  by_cases e:p.1=k
  ·let e':q.1=k:=h1.symm.trans e
   let b:valueAt (q::qs) k=some q.2:=by simp[valueAt,yJ,e']
   rw[pU e,b];exact h2
  ·let e':¬q.1=k:=λz=>e (h1.trans z)
   let b:valueAt (q::qs) k=valueAt qs k:=by simp[valueAt,yJ,e']
   rw[pV e,b];exact ih
theorem KV.any (r:KV kvs vs) (k:κ):(kvs.any λkv=>decide (kv.1=k))=vs.any λkv=>decide (kv.1=k):=by
 unfold KV at r
 induction r with
 | nil=>rfl
 | cons h t ih=>rw[y9,y9,ih,h.1]
def KV.My (r:KV kvs vs) (k:κ) (ry:RelV y u) :
  KV (kvs.map λkv=>if kv.1=k then(kv.1,y) else kv) (vs.map λkv=>if kv.1=k then(kv.1,u) else kv):=by
 unfold KV at r ⊢
 induction r with
 | nil=>exact .nil
 | @cons p q ps qs h t ih=>
  rw[zf,zf];refine .cons ?_ ih;let⟨h1,h2⟩:=h
  by_cases e:p.1=k
  ·rw[yF e,yF (h1.symm.trans e)];exact{(h1),ry}
  ·rw[yE e,yE (λz=>e (h1.trans z))];exact{(h1),h2}
def KV.put (r:KV kvs vs) (k:κ) (ry:RelV y u):KV (putK kvs k y) (stored vs k u):=by
 unfold putK stored;rw[r.any k]
 by_cases e:(vs.any λkv=>decide (kv.1=k))=true
 ·rw[yF e,yF e];exact r.My k ry
 ·rw[yE e,yE e];exact Paired.snoc r {(rfl),ry}
theorem KV.length (r:KV kvs vs):⇑kvs=⇑vs:=xG r
end
def uS (r:RelV (kV k) u):(bU P w).is k u=true:=by
 cases k with
 | inl i=>let⟨t,e⟩:=(show∃t,u=Value.int i t from r);subst e;exact Cz P w i t
 | inr x=>let⟨t,e⟩:=(show∃t,u=Value.str x t from r);subst e;exact oM P w x t
theorem uU:∀{ks:List Key} {us:List wM},Vals (ks.map kV) us->ItemsAre (bU P w) ks us
 | [],_,r=>by rw[yd] at r;cases r;exact .nil
 | k::ks,_,r=>by
  rw[zf] at r;cases r with
  | cons h t=>exact .cons (uS h) (uU t)
abbrev KT (H:Hp):List (List Key×V)->List (List Key×wV×wM)->Prop:=Paired λp q=>p.1=q.1/\H q.2.1=some (.tup (p.1.map kV))/\RelV p.2 q.2.2
def KT.val {H:Hp} {kvs:List (List Key×V)} {xs:List (List Key×wV×wM)} (r:KT H kvs xs) (k:List Key):dU (cS kvs k) ((atKey xs k).map (·.2)):=by
 induction r with
 | nil=>exact True.intro
 | @cons p q ps qs h t ih=>
  let⟨h1,_,h2⟩:=h
  by_cases e:p.1=k
  ·let e':q.1=k:=h1.symm.trans e
   let b:atKey (q::qs) k=some q.2:=by simp[atKey,yJ,e']
   rw[pU e,b];exact h2
  ·let e':¬q.1=k:=λz=>e (h1.trans z)
   let b:atKey (q::qs) k=atKey qs k:=by simp[atKey,yJ,e']
   rw[pV e,b];exact ih
def KT.My (r:KT H kvs xs) (k:List Key) (ry:RelV y u) :
  KT H (kvs.map λkv=>if kv.1=k then(kv.1,y) else kv) (xs.map (putAt k u)):=by
 induction r with
 | nil=>exact .nil
 | @cons p q ps qs h t ih=>
  rw[zf,zf];refine .cons ?_ ih;let⟨h1,h2,h3⟩:=h;unfold putAt
  by_cases e:p.1=k
  ·rw[yF e,yF (h1.symm.trans e)];exact{(h1),h2,ry}
  ·rw[yE e,yE (λz=>e (h1.trans z))];exact{(h1),h2,h3}
def KT.put (r:KT H kvs xs) (k:List Key) (hb:H b=some (.tup (k.map kV))) (ry:RelV y u) :
  KT H (putK kvs k y) (storedH xs k b u):=by
 let e:(kvs.any λkv=>decide (kv.1=k))=(atKey xs k).isSome:=by
  rw[pW,(r.val k).iB,Option.isSome_map]
 unfold putK storedH;rw[e]
 by_cases q:(atKey xs k).isSome=true
 ·rw[yF q,yF q];exact r.My k ry
 ·rw[yE q,yE q];exact Paired.snoc r {(rfl),hb,ry}
def KT.keeps (r:KT H kvs xs) (ht:∀b ys,H b=some (.tup ys)->H' b=some (.tup ys)):KT H' kvs xs:=
 Paired.MT r λ_ _ z=>{z.1,ht _ _ z.2.1,z.2.2}
section
variable {P:wO} {w:wQ} {H:Hp} {h:wW} {a:wV}
def LC (ok:kQ P w H h) (e:Rd H a u):aW P w H h a u:=e.ok ok
def oS (ok:kQ P w H h) (e:Rd H a (.dK kvs)):⇑kvs<=sizeLine/\(a == sysModules)=false/\∃vs,KV kvs vs/\h.DictOf (bU P w) a vs:=
 show aW P w H h a (.dK kvs) from LC ok e
def OV (ok:kQ P w H h) (e:H a=some (.dK kvs)):⇑kvs<=sizeLine/\(a == sysModules)=false/\∃vs,KV kvs vs/\h.DictOf (bU P w) a vs:=oS ok (.inl e)
def oa (ok:kQ P w H h) (e:H a=some (.tup (ks.map kV))):(tupleKind (bU P w)).is h ks a:=by
 let⟨_,its,r,o,h1,h2,n,h3⟩:=(show aW P w H h a (.tup (ks.map kV)) from ok a _ e)
 exact{o,its.toArray,n,h1,h2,h3,by simpa using uU r}
def rC (ok:kQ P w H h) (e:Rd H a (.dT kvs)):⇑kvs<=sizeLine/\(a == sysModules)=false/\
  ∃xs,KT H kvs xs/\h.DictOfH (tupleKind (bU P w)) a xs:=by
 let⟨z,y,xs,r,o,es,ep,h1,h2,h3,h4,h5⟩:=(show aW P w H h a (.dT kvs) from LC ok e)
 refine{z,y,xs,r,o,es,ep,h1,h2,h3,h4,λx hx=>?_,h5};let all:∀{l:List (List Key×V)} {m:List (List Key×wV×wM)},KT H l m->∀x∈m,(tupleKind (bU P w)).is h x.1 x.2.1:=by
  intro l m q
  induction q with
  | nil=>intro x hx;exact nomatch hx
  | @cons p q ps qs hq t ih=>
   intro x hx;rcases zA.mp hx with e | hx
   ·subst e
    exact oa ok (by rw[<-hq.1];exact hq.2.1)
   ·exact ih x hx
 exact all r x hx
def LS (ok:kQ P w H h) (e:H a=some (.dT kvs)):⇑kvs<=sizeLine/\(a == sysModules)=false/\
  ∃xs,KT H kvs xs/\h.DictOfH (tupleKind (bU P w)) a xs:=rC ok (.inl e)
end
def oy (H:Hp) (a:wV) (y:V) (r:Option V):Prop:=
 (∃kvs k,Rd H a (.dK kvs)/\y=kV k/\r=cS kvs k)\/∃kvs k b,Rd H a (.dT kvs)/\y=.ref b/\H b=some (.tup (k.map kV))/\r=cS kvs k
def O5 (H:Hp) (a:wV) (y v:V) (H':Hp):Prop:=
 (∃kvs k,H a=some (.dK kvs)/\y=kV k/\⇑kvs<sizeLine/\H'=upd H a (.dK (putK kvs k v)))\/
 ∃kvs k b,H a=some (.dT kvs)/\y=.ref b/\H b=some (.tup (k.map kV))/\⇑kvs<sizeLine/\H'=upd H a (.dT (putK kvs k v))
def oy.t {H:Hp} {a b:wV} {kvs:List (List Key×V)} {k:List Key} (e:H a=some (.dT kvs)) (eb:H b=some (.tup (k.map kV))):oy H a (.ref b) (cS kvs k):=.inr {kvs,k,b,.inl e,rfl,eb,rfl}
section
variable {X:Cx} {pins:List (wV×Obj)} {U:St} {H:Hp} {s:wN} {a:wV} {y v:V} {u r:wM} {o:Option V} {A:wR} {E:wM->wN->Prop}
def Inv.big (I:Inv X pins U H s):sysModules<↑s:=by
 let h:mainGlobals<↑s:=(I.mod.glob.keeps I.bk).lt;exact xm ∅ h
def G4 (hu:A.units+1<cLine) (I:Inv X pins U H s) (g:oy H a y (some v)) (ry:RelV y u) (h:∀w' s',Inv X pins U H s'->RelV v w'->Q w' s') :
  wpAny (model X.prog X.w) A (getItem (.ref a) u) Q E s:=by
 rcases g with⟨kvs,k,e,ey,l⟩ | ⟨kvs,k,b,e,ey,eb,l⟩
 ·subst ey
  let⟨z,hd,vs,rel,dd⟩:=oS I.aT e;let⟨w',hw,rw'⟩:=dU.some_of (v:=v) (o:=valueAt vs k) (by rw[l];exact rel.val k);exact wpAny_getItem_of (uS ry) dd.mapOf hw (h w' _ (I.tok _) rw')
 ·subst ey
  cases(show u=Value.ref b from ry);let⟨z,hd,xs,rel,dd⟩:=rC I.aT e;let⟨w',hw,rw'⟩:=dU.some_of (v:=v) (o:=(atKey xs k).map (·.2)) (by rw[l];exact rel.val k);let⟨p,hp,hp2⟩:=Option.map_eq_some_iff.mp hw;refine wpAny_getItem_heap (xX hu) (oa I.aT eb) dd hp ?_;rw[hp2];exact h w' _ (I.tok _) rw'
def Qn (hu:A.units+1<cLine) (I:Inv X pins U H s) (g:oy H a y o) (ry:RelV y u) (h:∀s',Inv X pins U H s'->Q (.bool o.isSome) s') :
  wpAny (model X.prog X.w) A (compareOp .In u (.ref a)) Q E s:=by
 rcases g with⟨kvs,k,e,ey,l⟩ | ⟨kvs,k,b,e,ey,eb,l⟩
 ·subst ey
  let⟨z,hd,vs,rel,dd⟩:=oS I.aT e;refine wpAny_in_of (uS ry) hd dd.mapOf ?_;rw[<-(rel.val k).iB,<-l];exact h _ (I.tok _)
 ·subst ey
  cases(show u=Value.ref b from ry);let⟨z,hd,xs,rel,dd⟩:=rC I.aT e;refine wpAny_in_heap (xX hu) (oa I.aT eb) hd dd ?_;let q:=(rel.val k).iB;rw[Option.isSome_map] at q;rw[<-q,<-l];exact h _ (I.tok _)
def Lb (hu:A.units+1<cLine) (I:Inv X pins U H s) (g:oy H a y o) (ry:RelV y u) (h:∀s',Inv X pins U H s'->Q (.bool (!o.isSome)) s') :
  wpAny (model X.prog X.w) A (compareOp .NotIn u (.ref a)) Q E s:=by
 rcases g with⟨kvs,k,e,ey,l⟩ | ⟨kvs,k,b,e,ey,eb,l⟩
 ·subst ey
  let⟨z,hd,vs,rel,dd⟩:=oS I.aT e;refine wpAny_notIn_of (uS ry) hd dd.mapOf ?_;rw[<-(rel.val k).iB,<-l];exact h _ (I.tok _)
 ·subst ey
  cases(show u=Value.ref b from ry);let⟨z,hd,xs,rel,dd⟩:=rC I.aT e;refine wpAny_notIn_heap (xX hu) (oa I.aT eb) hd dd ?_;let q:=(rel.val k).iB;rw[Option.isSome_map] at q;rw[<-q,<-l];exact h _ (I.tok _)
def FV (I:Inv X pins U H s) (mu:O3 (H a)) (hs:Heap.SameBut a s.heap h') (he:∃q,h'.get? a=some q) (new:aW X.prog X.w (upd H a ob) h' a ob) :
  Inv X pins U (upd H a ob) {s with heap:=h',toks:=t'}:=
 I.write (x:=a) (e:=a) mu (.inl rfl) (λb q hb z=>(hs.2 b hb).trans z) he new
def Np (z:⇑kvs<=sizeLine) (hd:(a == sysModules)=false) (rel:KV kvs vs) (dd:h'.DictOf (bU P w) a vs) :
  aW P w H' h' a (.dK kvs):={(z),hd,vs,rel,dd}
def G3 (hu:A.units+1<cLine) (I:Inv X pins U H s) (g:O5 H a y v H') (ry:RelV y u) (rv:RelV v r) (h:∀s',Inv X pins U H' s'->Q .unit s') :
  wpAny (model X.prog X.w) A (setItem (.ref a) u r) Q E s:=by
 rcases g with⟨kvs,k,e,ey,l,eH⟩ | ⟨kvs,k,b,e,ey,eb,l,eH⟩
 ·subst ey eH
  let⟨z,hd,vs,rel,dd⟩:=OV I.aT e;let hz:⇑vs<=sizeLine:=by rw[<-⇑rel];exact z
  let hl:⇑(putK kvs k v)<=sizeLine:=by have:=oP kvs k v;ext
  refine wpAny_setItem_pairs (hsz:=hz) (uS ry) dd λh' dd' hs=>h _ ?_;let he:∃q,h'.get? a=some q:=let ⟨q,_,_,hq,_⟩:=dd';{(q),hq};exact FV I (by rw[e];exact True.intro) hs he (Np hl hd (rel.put k rv) dd')
 ·subst ey eH
  cases(show u=Value.ref b from ry);let⟨z,hd,xs,rel,dd⟩:=LS I.aT e;let hz:⇑xs<=sizeLine:=by rw[<-xG rel];exact z
  let hl:⇑(putK kvs k v)<=sizeLine:=by have:=oP kvs k v;ext
  refine wpAny_setItem_heap (hsz:=hz) (xX hu) (oa I.aT eb) dd λh' dd' hs=>h _ ?_;let⟨q,es,ep,hq,h2,h3,h4,_,h5⟩:=dd';refine FV I (by rw[e];exact True.intro) hs ⟨q,hq⟩ ⟨hl,hd,_,(rel.put k eb rv).keeps λc ys ec=>?_,q,es,ep,hq,h2,h3,h4,h5⟩;rw[ao (aJ ec e (λz=>nomatch z))];exact ec
end
section
variable {X:Cx} {pins:List (wV×Obj)} {U:St} {H:Hp} {s:wN} {a:wV} {kvs:List (Key×V)} {k:Key} {u:wM} {A:wR} {E:wM->wN->Prop}
def OX (I:Inv X pins U H s) (e:Rd H a (.dK kvs)) (h:∀t s',Inv X pins U H s'->Q (.int ⇑kvs t) s'):wpAny (model X.prog X.w) A (call (.builtin "len") [.ref a]) Q E s:=by
 let⟨z,hd,vs,rel,dd⟩:=oS I.aT e;refine call_len_dict hd dd (by rw[<-⇑rel];rw[yt] at z;ext) ?_;rw[<-⇑rel];exact h _ _ (I.tok _)
end
def NA (i:Expr):Prop:=∀ov iv,subscripted i false ov iv=operate [ov,iv] (getItem ov iv)
def Fn {prog:wO} {w:wQ} {A:wR} {E:wM->wN->Prop} {s:wN} {env:Env} {value slice:Expr} {pos:Pos} {T id:String} {Q:wM->wN->Prop}
  (hl:typeLookup (.type T) "__getitem__"= pure (some (.builtin id))) (hs:NA slice)
  (h:wpAny (model prog w) A (eval value env) (λo s₁=>wpAny (model prog w) A (eval slice env) (λi s₂=>s₂.TypeIs o T/\wpAny (model prog w) A (getItem o i) Q E s₂) E s₁) E s) :
  wpAny (model prog w) A (eval (.Subscript value slice pos) env) Q E s:=by
 refine Subscript_ (yV h (λo s₁ h₁=>yV h₁ (λi s₂ h₂=>?_) λ_ _ x=>x) λ_ _ x=>x);let⟨hT,h₂⟩:=h₂;unfold subscriptTail;refine yj ?_;rw[getitemInPython_of_ne hT.not_modules];refine yj (wpAny_specialOf hT hl ?_);let fin:wpAny (model prog w) A (subscripted slice false o i) (λr s₃=>wpAny (model prog w) A (letTemporaryGo value o r >>= λ_=>pure r) Q E s₃) E s₂:=by
  rw[hs o i];exact wpAny_operating (yV h₂ (λr s₃ h₃=>yj (wpAny_letTemporaryGo (ym h₃))) λ_ _ x=>x)
 first
  | exact ym (yj fin)
  | exact yj (ym (yj fin))
  | exact yj fin
def CU (I:Inv X pins U H s) (g:oy H a y o):s.TypeIs (.ref a) "dict":=by
 rcases g with⟨kvs,k,e,_,_⟩ | ⟨kvs,k,b,e,_,_,_⟩
 ·let⟨_,_,vs,_,dd⟩:=oS I.aT e
  exact dd.typeIs
 ·let⟨_,_,xs,_,dd⟩:=rC I.aT e
  exact dd.typeIs
def Lx (td ty:TE):TE:=λU H Q=>td U H λx H1=>ty U H1 λy H2=>∃a v,x=.ref a/\oy H2 a y (some v)/\Q v H2
def PY (ty td:TE):TE:=λU H Q=>ty U H λy H1=>td U H1 λx H2=>∃a o,x=.ref a/\oy H2 a y o/\Q (.bl o.isSome) H2
def Kj (ty td:TE):TE:=λU H Q=>ty U H λy H1=>td U H1 λx H2=>∃a o,x=.ref a/\oy H2 a y o/\Q (.bl (!o.isSome)) H2
def Og (td ty tv:TE):TS:=λD U H=>tv U H λv H1=>td U H1 λx H2=>ty U H2 λy H3=>∃a H4,x=.ref a/\O5 H3 a y v H4/\D.nx U H4
section
variable {X:Cx} {o i e value:Expr} {pos pos' tpos:Pos} {td ty tv:TE}
def FE (hu:X.A.units+1<cLine) (ho:PE X o td) (hi:PE X i ty) (hs:NA i):PE X (.Subscript o i pos) (Lx td ty):=by
 intro pins s U H Q I h;refine Fn PySem.F.slot_dict_getitem.lookup hs (bR (ho pins s U H _ I h) λu s1 ⟨x,H1,I1,rx,q1⟩=>bR (hi pins s1 U H1 _ I1 q1) λiv s2 zz=>?_);let⟨y,H2,I2,ry,a,v,ex,g,q2⟩:=zz;subst ex;obtain rfl:u=Value.ref a:=rx;exact{CU I2 g,G4 hu I2 g ry λw' s3 I3 rw'=>{(v),H2,I3,rw',q2}}
def Ef (hu:X.A.units+1<cLine) (hi:PE X i ty) (ho:PE X o td):PC X .In i o (PY ty td):=by
 intro pins s U H Q I h;refine bR (hi pins s U H _ I h) λiv s1 ⟨y,H1,I1,ry,q1⟩=>bR (ho pins s1 U H1 _ I1 q1) λu s2 zz=>?_;let⟨x,H2,I2,rx,a,ov,ex,g,q2⟩:=zz;subst ex;obtain rfl:u=Value.ref a:=rx;exact Qn hu I2 g ry λs3 I3=>{.bl ov.isSome,H2,I3,rfl,q2}
def uJ (hu:X.A.units+1<cLine) (hi:PE X i ty) (ho:PE X o td):PC X .NotIn i o (Kj ty td):=by
 intro pins s U H Q I h;refine bR (hi pins s U H _ I h) λiv s1 ⟨y,H1,I1,ry,q1⟩=>bR (ho pins s1 U H1 _ I1 q1) λu s2 zz=>?_;let⟨x,H2,I2,rx,a,ov,ex,g,q2⟩:=zz;subst ex;obtain rfl:u=Value.ref a:=rx;exact Lb hu I2 g ry λs3 I3=>{.bl (!ov.isSome),H2,I3,rfl,q2}
def pM (hu:X.A.units+1<cLine) (ho:PE X o td) (hi:PE X i ty) (hv:PE X value tv) (hs:swapsWith value (some (.Subscript o i pos')) pos.line X.env=pure false) :
  PS X (.Assign [.Subscript o i pos'] value pos) (Og td ty tv):=by
 intro pins s U H D I h;refine wpAny_Assign_Subscript (bR (hv pins s U H _ I h) λr s1 ⟨v,H1,I1,rv,q1⟩=>bR (ho pins s1 U H1 _ I1 q1) λu s2 ⟨x,H2,I2,rx,q2⟩=>bR (hi pins s2 U H2 _ I2 q2) λiv s3 ⟨y,H3,I3,ry,a,H4,ex,g,q3⟩=>?_) hs;subst ex;obtain rfl:u=Value.ref a:=rx;exact G3 hu I3 g ry rv λs4 I4=>{U,H4,I4,q3}
end
def JE (h:wW) (hb:sysModules<h.objs.size):aW P w H (h.push {cls:=.type "dict",data:=.dict #[]}) h.objs.size (.dK []):=
 {zZ _,xl.mpr (Ne.symm (ya hb)),[],.nil,Heap.DictOf.new h}
def JD (h:wW) (hb:sysModules<h.objs.size):aW P w H (h.push {cls:=.type "dict",data:=.dict #[]}) h.objs.size (.dT []):=
 {zZ _,xl.mpr (Ne.symm (ya hb)),[],.nil,_,#[],0,yn _ rfl,{(rfl),rfl,rfl},rfl,rfl,xJ}
def Mn:TE:=λ_ H Q=>∀p,H p=none->Q (.ref p) (upd H p (.dK []))
def Mm:TE:=λ_ H Q=>∀p,H p=none->Q (.ref p) (upd H p (.dT []))
section
variable {X:Cx} {pos:Pos}
def qK:PE X (.Dict [] [] pos) Mn:=λpins s U H Q I h=>
 wpAny_Dict_empty {.ref ↑s,_,I.laid (a:=↑s) (o:=.dK []) (t':=s.toks) (λ_ _ q=>yk _ q) (zh _) (JE s.heap I.big),rfl,h _ (I.aT.fresh (zh _))}
def IH:PE X (.Dict [] [] pos) Mm:=λpins s U H Q I h=>
 wpAny_Dict_empty {.ref ↑s,_,I.laid (a:=↑s) (o:=.dT []) (t':=s.toks) (λ_ _ q=>yk _ q) (zh _) (JD s.heap I.big),rfl,h _ (I.aT.fresh (zh _))}
end
structure M2 (X:Cx) (o:Expr) (m:Str) (apos:Pos) (e f:Expr) (cpos:Pos):Prop where
 base:attributeBase o m X.env (eval o X.env)=eval o X.env
 QT:((backTo cpos (starEach [e,f] X.env)).all (λx=>!x.1)&&(backToKw cpos (keywordEach [] X.env)).all (λx=>x.1.isSome)
  &&decide (⇑([e,f]:List Expr)+⇑([]:List Keyword)+(if([]:List Keyword).isEmpty then 0 else 1)<30))=true
 line:(apos.endLine == cpos.line)=true
 trees:backTo cpos (starEach [e,f] X.env)=[(false,eval e X.env),(false,eval f X.env)]
def QF (H:Hp) (a:wV):Prop:=(∃kvs,Rd H a (.dK kvs))\/∃kvs,Rd H a (.dT kvs)
def M8 (I:Inv X pins U H s) (d:QF H a) :
  s.TypeIs (.ref a) "dict"/\(∀b,Value.ref a=.ref b->∃ob,s.heap.get? b=some ob/\ob.dict=none)/\(a == sysModules)=false:=by
 rcases d with⟨kvs,e⟩ | ⟨kvs,e⟩
 ·let⟨_,hd,vs,_,dd⟩:=oS I.aT e
  refine{dd.typeIs,λb q=>?_,hd};cases q;let⟨ob,_,_,h1,h2,_⟩:=dd;exact{(ob),h1,h2.2.1}
 ·let⟨_,hd,xs,_,dd⟩:=rC I.aT e
  refine{dd.typeIs,λb q=>?_,hd};cases q;let⟨ob,_,_,h1,h2,_⟩:=dd;exact{(ob),h1,h2.2.1}
section
variable {X:Cx} {pins:List (wV×Obj)} {U:St} {H:Hp} {s:wN} {a:wV} {y d:V} {u r:wM} {o:Option V} {A:wR} {E:wM->wN->Prop}
def Nq (hu:A.units+1<cLine) (I:Inv X pins U H s) (g:oy H a y o) (ry:RelV y u) (rd:RelV d r) (h:∀w' s',Inv X pins U H s'->RelV (o.getD d) w'->Q w' s') :
  wpAny (model X.prog X.w) A (call (.builtin "dict.get") [.ref a,u,r]) Q E s:=by
 rcases g with⟨kvs,k,e,ey,l⟩ | ⟨kvs,k,b,e,ey,eb,l⟩
 ·subst ey
  let⟨z,hd,vs,rel,dd⟩:=oS I.aT e;refine call_meetsIn PySem.F.slot_dict_get dd.typeIs PySem.F.entry_dict_get (PySem.F.args_dict_get_3 _ _ _) (meets_dict_get_default (bU X.prog X.w) a (uS ry) hd r) {_,dd.mapOf,h _ _ (I.tok _) ?_};rw[l];exact(rel.val k).getD rd
 ·subst ey
  cases(show u=Value.ref b from ry);let⟨z,hd,xs,rel,dd⟩:=rC I.aT e;refine call_meetsIn PySem.F.slot_dict_get dd.typeIs PySem.F.entry_dict_get (PySem.F.args_dict_get_3 _ _ _) (meetsH_dict_get_default (tupleKind (bU X.prog X.w)) a b hd r) {xX hu,k,xs,oa I.aT eb,dd,h _ _ (I.tok _) ?_};rw[l];exact(rel.val k).getD rd
end
def Mp (td ty tx:TE):TE:=λU H Q=>td U H λx H1=>∃a,x=.ref a/\QF H1 a/\ty U H1 λy H2=>tx U H2 λz H3=>∃o,oy H3 a y o/\Q (o.getD z) H3
section
variable {X:Cx} {o e f:Expr} {apos cpos:Pos} {td ty tx:TE}
def II (hu:X.A.units+1<cLine) (ho:PE X o td) (he:PE X e ty) (hf:PE X f tx) (m:M2 X o "get" apos e f cpos):PE X (.Call (.Attribute o "get" apos) [e,f] [] cpos) (Mp td ty tx):=by
 intro pins s U H Q I h;refine wpAny_Call_method m.base m.QT m.line PySem.F.plainAttrs_dict PySem.F.slot_dict_get PySem.F.type_dict_get (bR (ho pins s U H _ I h) λu s1 zz=>?_);let⟨x,H1,I1,rx,a,ex,d,q1⟩:=zz;subst ex;obtain rfl:u=Value.ref a:=rx;let⟨t1,t2,_⟩:=M8 I1 d;refine{t1,t2,?_};rw[m.trees];refine wg rfl (Calls.evalArgs_plain (xZ (bR (he pins s1 U H1 _ I1 q1) λiv s2 ⟨y,H2,I2,ry,q2⟩=>
  xZ (bR (hf pins s2 U H2 _ I2 q2) λfv s3 ⟨z,H3,I3,rz,ov,g,q3⟩=>wK ?_))))
 exact Nq hu I3 g ry rz λw' s4 I4 rw'=>{_,H3,I4,rw',q3}
end
section
variable {X:Cx} {pins:List (wV×Obj)} {U:St} {H:Hp} {s:wN} {a:wV} {kvs:List (Key×V)} {A:wR} {E:wM->wN->Prop}
end
section
variable {X:Cx} {pins:List (wV×Obj)} {U:St} {H:Hp} {s:wN} {a:wV} {y:V} {u:wM} {A:wR} {E:wM->wN->Prop}
end
end L2
namespace L2
open PySem PySem.Spec PyProof.Rows
section
variable {κ:Type} [DecidableEq κ]
end
end L2
namespace L2
open PySem PySem.Spec PyProof.Rows
def dE (U₀:St) (g:TG) (tc:TT) (te:TE) (Q:VK) (J:It) (H1:Hp):Prop:=∃W:Nat->Nat->List V->St->Hp->Prop,(∃m,W 0 m [] U₀ H1)/\∀i m xs U' H',W i m xs U' H'->
 (J.stop i H'/\⇑xs<=sizeLine/\∀D,H' D=none->Q (.ref D) (upd H' D (.lst xs)))\/
 (J.go i H'/\⇑xs<sizeLine/\∀x H2,J.HD i H' x H2->g x U' H2 λU3 H3=>tc U3 H3 λb H4=>if b=true then te U3 H4 λy H5=>∃m',m'<m/\W (i+1) m' (xs++[y]) U3 H5 else∃m',m'<m/\W (i+1) m' xs U3 H4)
def bI (X:Cx) (N:List Str) (scope:Scope) (cl:List (Str×wV)) (C:wV) (s₀:wN) (H₀:Hp) (ex:List wV):Cx:=
 {X with N:=N,s₀:=s₀,H₀:=H₀,env:=compEnvC scope (cellsFrom (C+1) scope.names cl) C X.env,outer:=X.stack,stack:=X.stack,ex:=ex,fn:=λx=>((cellsFrom (C+1) scope.names []).lookup x).isSome,pn:=[],xe:=λ_ _=>False}
def jJ (fr:List (Option Nat)) (wi:TI) (g:TG) (tc:TT) (te:TE):TE:=λU H Q=>wi U H λJ H1=>dE (fr.map λo=>o.bind λj=>(U[j]?).join) g tc te Q J H1
def Lj (X:Cx) (ifs:List Expr) (tc:TT):Prop:=∀(pins:List (wV×Obj)) (s:wN) (U:St) (H:Hp) (Q:Bool->Hp->Prop),Inv X pins U H s->tc U H Q->
 wpAny (model X.prog X.w) X.A (forIn ifs true λc r=>if r=true then do let ok <-isTrue c X.env (eval c X.env);pure (ForInStep.yield ok) else pure (ForInStep.yield r)) (TP X pins U Q) X.xe s
def sC:TT:=λ_ H Q=>Q true H
def aX:Lj X [] sC:=λ_ _ _ H _ I h=>wpAny_tests_nil {(H),I,h}
def Fz (h:PT X c tc):Lj X [c] tc:=λpins s U H Q I q=>wpAny_tests_one (h pins s U H Q I q)
theorem bW:∀(names:List (Str×NameKind)) (n:Nat) (acc:List (Str×wV)),cellsFrom n names acc=cellsFrom n names []++acc
 | [],_,_=>rfl
 | (x,k)::r,n,acc=>by
  unfold cellsFrom;split
  ·rw[bW r (n+1) ((x,n)::acc),bW r (n+1) [(x,n)],zC];rfl
  ·exact bW r n acc
def KG {h:wW} {lo:Nat} {cs:List (Str×wV)} (ok:CellsOk h lo cs) {x y:Str} {c:wV} (e:cs.lookup x=some c) (e':cs.lookup y=some c):x=y:=by
 let key:∀(l:List (Str×wV)),l.Pairwise (λx y=>x.2≠y.2)->(x,c)∈l->(y,c)∈l->x=y:=by
  intro l
  induction l with
  | nil=>intro _ h;cases h
  | cons p r ih=>
   intro hp h1 h2;rw[List.pairwise_cons] at hp;rcases zA.mp h1 with h1 | h1
   ·rcases zA.mp h2 with h2 | h2
    ·rw[<-h1] at h2;exact(Prod.mk.inj h2).1.symm
    ·exact absurd rfl (by have:=hp.1 _ h2;rw[<-h1] at this;exact this)
   ·rcases zA.mp h2 with h2 | h2
    ·exact absurd rfl (by have:=hp.1 _ h1;rw[<-h2] at this;exact this)
    ·exact ih hp.2 h1 h2
 exact key cs ok.apart (mem_of_lookup e) (mem_of_lookup e')
def As
  (hQ:∀g1:wW,g1.Ns ↑s (λ_=>none)->(∀b o,s.heap.get? b=some o->g1.get? b=some o)->CellsOk g1 (↑s+1) (cellsFrom (↑s+1) scope.names [])->
   Q (newEnv scope ↑s globals (cellsFrom (↑s+1) scope.names cl) qual none .none (some outer) builtinsNs) {s with heap:=g1}) :
  wpAny M A (newFunctionEnv scope globals cl [] qual none .none (some outer)) Q E s:=by
 simp only[newFunctionEnv,Option.isSome_some,wB];refine yj (wpAny_alloc ?_);refine yj (wpAny_layCells _ (λname kind cells=>by cases hkc:kind == NameKind.cell <;> simp[hkc]) _ _ _ _ ?_);let ok:=cellsFrom_ok scope.names (s.heap.push {cls:=.type "dict",data:=.dict #[]}) (↑s+1) [] {λ_ _ hm=>(nomatch hm),List.Pairwise.nil} (by rw[yZ];exact zh _);rw[yZ] at ok;rw[show({s with heap:=s.heap.push {cls:=.type "dict",data:=.dict #[]}}:wN).heap.objs.size=↑s+1 from yZ ..];exact yj (ym (ym (hQ _ ((Heap.Ns.new s.heap (.type "dict")).keeps (pushCells_keeps _ _)) (λb o e=>pushCells_keeps _ _ b o (yk _ e)) ok)))
def ER (I:Nat->wN->Prop)
  (turn:∀n s,I n s->wpAny (model prog w) A (pyNext it) (λr s1=>match r with
   | none=>R (.ok .next) s1
   | some v=>wpAny (model prog w) A (letOwnedTupleGo target it v) (λ_ s2=>wpAny (model prog w) A (assign target env v) (λ_ s3=>
     wpAny (model prog w) A (forIn ifs true λc r=>if r=true then do let ok <-isTrue c env (eval c env);pure (ForInStep.yield ok) else pure (ForInStep.yield r)) (λok s3'=>if ok=true then wpAny (model prog w) A (eval elt env) (λx s4=>
     wpAny (model prog w) A (call (.builtin "list.append") [acc,x]) (λ_ s5=>∃m,m<n/\I m s5) (λ_ _=>False) s4) (λ_ _=>False) s3' else∃m,m<n/\I m s3') (λ_ _=>False) s3) (λ_ _=>False) s2) (λ_ _=>False) s1) (λ_ _=>False) s)
  (n:Nat) (h:I n s):codeAny (model prog w) A (.compLoop (.ListComp elt [{target,iter,ifs,0}] scope pos) 0 it acc env) R s:=by
 refine codeAny_loop rfl I (λn s hI=>?_) n h;show wpAny _ _ ((compTurn (.ListComp elt [{target,iter,ifs,0}] scope pos) 0 it acc env).onRaise (λx=>do noteFrame x env;theTreesLotGoes x)) _ _ s;refine wpAny_noted ?_;rw[compTurn_list];let no:∀(E:wM->wN->Prop) (x:wM) (s':wN),False->E x s':=λ_ _ _ f=>f.elim;refine yj (wpAny_standAt (yj (yV (turn n s hI) (λr s1 h1=>?_) (no _))));cases r with
 | none=>exact ym h1
 | some v=>
  refine yj (yV h1 (λ_ s2 h2=>yj (yV h2 (λ_ s3 h3=>yj (yV h3 (λok s3' h3'=>?_) (no _))) (no _))) (no _));cases ok with
  | false=>
   rw[yE ∅] at h3';exact ym {(rfl),h3'}
  | true=>
   rw[yF rfl] at h3';exact yj (yj (yV h3' (λx s4 h4=>yj (yV h4 (λ_ s5 h5=>ym (ym {(rfl),h5})) (no _))) (no _)))
section
variable {X:Cx} {pos:Pos}
def rP {elt target iter:Expr} {scope:Scope} {N:List Str} {fr:List (Option Nat)} {cl:List (Str×wV)} {g:TG} {tc:TT} {te:TE} {ifs:List Expr} (hc:X.calm=true) (hsub:∀x c,cl.lookup x=some c->X.env.cells.lookup x=some c) (hhas:∀C x,((compEnvC scope cl C X.env).kindOf x=some .cell\/(compEnvC scope cl C X.env).kindOf x=some .free)->(∃c,cl.lookup x=some c)\/∃c,(cellsFrom (C+1) scope.names []).lookup x=some c)
  (hlen:⇑fr=N.length) (hfr:∀(i:Nat) x j,N[i]?=some x->fr[i]?=some (some j)->X.N[j]?=some x/\LW X.env.scope x/\X.env.kindOf x≠some .local/\(∀C,(compEnvC scope cl C X.env).kindOf x=some .cell\/(compEnvC scope cl C X.env).kindOf x=some .free)/\(∀c,X.env.cells.lookup x=some c->cl.lookup x=some c)/\∀C,(cellsFrom (C+1) scope.names []).lookup x=none) (hkind:scope.kind=.function)
  (hg:∀C s₀ H₀ ex,PG (bI X N scope cl C s₀ H₀ ex) target g) (hif:∀C s₀ H₀ ex,Lj (bI X N scope cl C s₀ H₀ ex) ifs tc) (he:∀C s₀ H₀ ex,PE (bI X N scope cl C s₀ H₀ ex) elt te)
  {pins:List (wV×Obj)} {U:St} {s2:wN} {it:wV} {fp:List wV} {tn:Nat->wW->Prop} {J:It} {H2:Hp} {Q:VK} {RR:wM->wV->Result->wN->Prop} (I2:Inv X pins U H2 s2) (T:Turn X.prog X.w X.K target J fp it tn) (st2:tn 0 s2.heap) (f2:∀b∈fp,uo X pins H2 b)
  (ok:dE (fr.map λo=>o.bind λj=>(U[j]?).join) g tc te Q J H2)
  (fin:∀D C s4 H' xs,↑s2<=D->↑s2<=C->C≠D->Inv X pins U (upd H' D (.lst xs)) s4->H' D=none->H' C=none->(∃m,s4.heap.Ns C m)->(∀D,H' D=none->Q (.ref D) (upd H' D (.lst xs)))->RR (.ref D) C (.ok .next) s4) :
  wpAny (model X.prog X.w) X.A (newList []) (λacc s3=>wpAny (model X.prog X.w) X.A (newFunctionEnv scope X.env.globals cl [] X.env.qual none .none (some X.env)) (λcenv s4=>
   codeAny (model X.prog X.w) X.A (.compStart (.ListComp elt [{target,iter,ifs,0}] scope pos) 0 (.ref it) acc {cenv with scope:=relabel scope X.env}) (RR acc cenv.locals) s4) X.xe s3) X.xe s2:=by
 let⟨W,⟨m0,w0⟩,turn⟩:=ok;refine yU (As λg1 hns hold hown=>?_);dsimp only at hns hold hown ⊢;generalize hG:s2.heap.push {cls:=.type "list",dict:=none,data:=.seq ([]:List wM).toArray}=G2 at hns hold hown ⊢;let hC:G2.objs.size=↑s2+1:=by rw[<-hG,yZ]
 let below:∀b,b<↑s2->b≠G2.objs.size/\b≠↑s2:=λb hb=>{by rw[hC];exact ya (wc hb),ya hb}
 let hDC:↑s2≠G2.objs.size:=by rw[hC];exact ya (xw _)
 let old:∀b o,s2.heap.get? b=some o->g1.get? b=some o:=λb o e=>hold b o (hG▸yk _ e);let hacc:g1.get? ↑s2=some {cls:=.type "list",data:=.seq ([]:List wM).toArray 0}:=hold _ _ (hG▸yn _ rfl);let hsC:↑s2<G2.objs.size:=by rw[hC];exact xw _
 let csl:∀x c,(cellsFrom (G2.objs.size+1) scope.names cl).lookup x=some c->((cellsFrom (G2.objs.size+1) scope.names []).lookup x=some c/\G2.objs.size<c/\g1.IsCell c none)\/((cellsFrom (G2.objs.size+1) scope.names []).lookup x=none/\cl.lookup x=some c/\X.env.cells.lookup x=some c/\c<↑s2):=λx c e=>by
  rw[bW,xY] at e;cases q:(cellsFrom (G2.objs.size+1) scope.names []).lookup x with
  | some d=>
   rw[q] at e;cases e;let⟨z1,z2⟩:=hown.empty x _ (mem_of_lookup q);exact .inl {(rfl),z2,z1}
  | none=>
   rw[q] at e;let⟨v,z⟩:=I2.cell x c (hsub x c e);exact .inr {rfl,e,hsub x c e,z.lt}
 let fplt:∀b∈fp,b<↑s2:=λb hb=>let ⟨o,e,_⟩:=T.obj _ _ st2 b hb;yo e;let FY:∀b∈fp,∀x c,(cellsFrom (G2.objs.size+1) scope.names cl).lookup x=some c->c≠b:=λb hb x c e=>by
  rcases csl x c e with⟨_,l,_⟩ | ⟨_,_,z,_⟩
  ·exact z9 (xm (fplt b hb) (xm hsC l))
  ·exact(f2 b hb).2.2.2.2.1 x c z
 letI Y:Cx:=bI X N scope cl G2.objs.size s2 H2 fp
 let okY:Y.Ok:=by
  refine{I2.ok.mod,hkind,I2.ok.glob,I2.ok.blt,?_,λx y c e e'=>?_,λx hx=>?_,λx c hf e=>?_,I2.ok.hd,I2.ok.frames,.inl rfl,λb hb=>{(below b (fplt b hb)).1,λx c e=>FY b hb x c e},I2.bs,zJ I2.ok.Hr I2.sz,λb o e hb=>?_,λb hb hf=>?_,I2.stack,I2.iP}
  ·show ↑s2<=G2.objs.size
   rw[hC];exact xI _
  ·rcases csl x c e with⟨q,l,_⟩ | ⟨_,q,z,l⟩
   ·rcases csl y c e' with⟨q',l',_⟩ | ⟨_,q',z',l'⟩
    ·exact KG hown q q'
    ·exact absurd (xm (xm hsC l) l') (zY _)
   ·rcases csl y c e' with⟨q',l',_⟩ | ⟨_,q',z',l'⟩
    ·exact absurd (xm (xm hsC l') l) (zY _)
    ·exact I2.ok.inj x y c z z'
  ·show∃c,(cellsFrom (G2.objs.size+1) scope.names cl).lookup x=some c
   rw[bW,xY];rcases hhas G2.objs.size x hx with⟨c,e⟩ | ⟨c,e⟩
   ·rw[e];cases(cellsFrom (G2.objs.size+1) scope.names []).lookup x with
    | none=>exact{(c),rfl}
    | some d=>exact{(d),rfl}
   ·rw[e];exact{(c),rfl}
  ·let hf':((cellsFrom (G2.objs.size+1) scope.names []).lookup x).isSome=true:=hf
   rcases csl x c e with⟨q,l,_⟩ | ⟨q,_⟩
   ·exact z0 (xm hsC l)
   ·rw[q] at hf';cases hf'
  ·rcases(f2 b hb).2.2.2.1 with z | z
   ·exact I2.ok.jC b o e z
   ·exact absurd (zV (yo e) (zJ I2.ok.Hr z)) (zY _)
  ·rcases zA.mp (I2.vJ b hf) with z | z
   ·exact(f2 b hb).2.1 z
   ·exact(f2 b hb).2.2.1 z
 let cl2:∀x c,(cellsFrom (G2.objs.size+1) scope.names cl).lookup x=some c->(∃v,g1.IsCell c v)/\H2 c=none/\c≠↑s2:=λx c e=>by
  rcases csl x c e with⟨_,l,z⟩ | ⟨_,_,z,l⟩
  ·exact{{_,z},I2.aT.fresh (z0 (xm hsC l)),z9 (xm hsC l)}
  ·let⟨v,oc,hoc,hd⟩:=I2.cell x c z
   exact{{v,oc,old _ _ hoc,hd},I2.gi x c z,ya l}
 let Dfs:↑s2∉Y.fs:=λhb=>by
  rcases zA.mp (I2.vJ _ hb) with z | z
  ·exact absurd (z▸I2.lt) (zY _)
  ·exact I2.Oy (zh _) z
 let hCf:H2 G2.objs.size=none:=I2.aT.fresh (by rw[hC];exact xI _);let start:∀tk,Inv Y [(↑s2,{cls:=.type "list",data:=.seq ([]:List wM).toArray 0})] (fr.map λo=>o.bind λj=>(U[j]?).join) H2 {s2 with heap:=g1,toks:=tk}:=λtk=>
  {okY,rfl,I2.bare,Un.kept old,{_,hns,λi x v e1 e2 _=>by
    rw[zH] at e2;cases ef:fr[i]? with
    | none=>rw[ef] at e2;cases e2
    | some o=>
     cases o with
     | none=>rw[ef] at e2;cases e2
     | some j=>
      rw[ef] at e2;let e2':(U[j]?).join=some v:=by simpa using e2
      let ej:U[j]?=some (some v):=by
       cases q:U[j]? with
       | none=>rw[q] at e2';cases e2'
       | some w=>rw[q] at e2';cases w with
        | none=>cases e2'
        | some w=>cases e2';rfl
      let⟨k1,k2,k3,k4,k5,k6⟩:=hfr i x j e1 ef;let⟨m,_,hl⟩:=I2.loc;let⟨u,r,l⟩:=hl j x v k1 ej k2;refine{u,r,?_};rcases l with l | ⟨_,c,ec,z⟩
      ·exact absurd l.1 k3
      ·let⟨oc,hoc,hd⟩:=z
       exact .inr {k4 G2.objs.size,c,by show(cellsFrom (G2.objs.size+1) scope.names cl).lookup x=some c;rw[bW,xY,k6];exact k5 c ec,oc,old _ _ hoc,hd}},
   λx c e=>(cl2 x c e).1,hCf,λx c e=>(cl2 x c e).2.1,
   λp hp=>by
    let e:p=(↑s2,{cls:=.type "list",data:=.seq ([]:List wM).toArray 0}):=by simpa using (show p∈[]++[_] from hp)
    subst e;exact{hacc,I2.aT.fresh (zh _),hDC,Dfs,λv z=>by cases z},I2.aT.kept old,by rw[za,hlen];rfl}
 let stat:∀{H':Hp} {ob:Obj},(∀b∈fp,H' b=none)->∀b∈fp,uo Y [(↑s2,ob)] H' b:=λ{H' ob} hn b hb=>by
  refine{hn b hb,(below b (fplt b hb)).1,λz=>okY.EA b hb z,.inl hb,FY b hb,λp hp=>?_};let e:p=(↑s2,ob):=by simpa using (show p∈[]++[_] from hp)
  subst e;exact(below b (fplt b hb)).2.symm
 let loop:∀tk,codeAny (model X.prog X.w) X.A (.compLoop (.ListComp elt [{target,iter,ifs,0}] scope pos) 0 (.ref it) (.ref ↑s2) (compEnvC scope (cellsFrom (G2.objs.size+1) scope.names cl) G2.objs.size X.env))
   (RR (.ref ↑s2) G2.objs.size) {s2 with heap:=g1,toks:=tk}:=by
  intro tk;refine ER (λn s'=>∃i U' H' xs its k,Inv Y [(↑s2,{cls:=.type "list",data:=.seq its.toArray k})] U' H' s'/\tn i s'.heap/\(∀b∈fp,H' b=none)/\Vals xs its/\W i n xs U' H') ?_ m0
   {0,_,H2,[],[],0,start tk,T.keep _ _ _ st2 λb _ o e=>old b o e,λb hb=>(f2 b hb).1,.nil,w0}
  rintro n s3 ⟨i,U3,H3,xs,its,k,I3,st3,fr3,rv3,w3⟩;rcases turn i n xs U3 H3 w3 with⟨stop,hz,qn⟩ | ⟨go,hz,step⟩
  ·refine bR (T.done Y rfl rfl rfl hc i _ s3 U3 H3 _ I3 (stat fr3) st3 stop) λr s4 ⟨hr,I4⟩=>?_
   subst hr;let⟨m,hm,_⟩:=id I4.loc;let⟨pD,nD,neD,fD,_⟩:=I4.pin (↑s2,{cls:=.type "list",data:=.seq its.toArray k}) (by show _∈[]++[_];simp);refine fin ↑s2 G2.objs.size s4 H3 xs (zh _) (by rw[hC];exact xI _) hDC.symm (I2.F0 (s':=s4) (ch:=fp) I4.os ?_ ?_ I4.bare (λb hb=>{(f2 b hb).2.2.2.1,(f2 b hb).2.1,(f2 b hb).2.2.2.2.1,(f2 b hb).2.2.2.2.2})) nD I4.free {(m),hm} qn
   ·let ub:Un Y.fs Y.ex H2 H3 s2.heap s4.heap:=I4.base
    let lt:∀b o,s2.heap.get? b=some o->b≠G2.objs.size/\b≠↑s2:=λb o e=>below b (yo e);refine{λb o e n hb hx=>ub.keep b o e n hb hx,λb o e n hb hx=>ub.slot b o e n hb hx,λb o e n hx=>?_,λb o e hx=>ub.there b o e hx,λb ys e=>?_,λb o u e=>?_,λb ps e=>?_}
    ·rw[ao (lt b o e).2];exact ub.free b o e n hx
    ·let q:=ub.jA b ys e
     rw[ao (aL q nD)];exact q
    ·let q:=ub.iE b o u e
     rw[ao (aL q nD)];exact q
    ·let⟨more,q⟩:=ub.jB b ps e
     exact{more,by rw[ao (aL q nD)];exact q}
   ·intro b u e
    by_cases hb:b=↑s2
    ·subst hb;rw[aA] at e;cases e
     exact{(hz),its,k,rv3,pD}
    ·rw[ao hb] at e
     exact(I4.aT b u e).gs (λc v hc' q=>q) (λc q=>by rw[ao (aL q nD)];exact q) λc ys q=>by rw[ao (aL q nD)];exact q
  ·refine bR (T.item Y rfl rfl rfl hc i _ s3 U3 H3 _ I3 (stat fr3) st3 go) λr s4 ⟨u,hr,h4⟩=>?_
   subst hr;refine bR h4 λ_ s5 zz=>?_;let⟨x,H5,I5,r5,y5,st5,fr5⟩:=zz;let I5':=I5.pinned (stat fr5) (T.obj _ _ st5);refine bR (hg G2.objs.size s2 H2 fp _ s5 U3 H5 x u _ I5' r5 (step x H5 y5)) λ_ s6 ⟨U6,H6,I6,q6⟩=>?_;refine bR (hif G2.objs.size s2 H2 fp _ s6 U6 H6 _ I6 q6) λb s6' ⟨H6',I6',q6'⟩=>?_;cases b with
   | false=>
    rw[yE ∅] at q6' ⊢;let⟨m',hm,w7⟩:=q6';let inD:(↑s2,({cls:=.type "list",data:=.seq its.toArray k}:Obj))∈Y.pn++([(↑s2,({cls:=.type "list",data:=.seq its.toArray k}:Obj))]++nQ fp s5.heap):=by show _∈[]++_;simp
    let⟨pD,nD,neD,fD,dD⟩:=I6'.pin _ inD;let I7':Inv Y [] U6 H6' s6':=I6'.kE λp hp=>nomatch hp;refine{m',hm,i+1,U6,H6',xs,its,k,I7'.kE λp hp=>?_,T.keep _ _ _ st5 (λb hb o e=>(I6'.pin (b,o) (zF _ (zF _ (eL hb e)))).1),λb hb=>?_,rv3,w7}
    ·let e:p=(↑s2,{cls:=.type "list",data:=.seq its.toArray k}):=by simpa using hp
     subst e;exact{(pD),nD,neD,fD,dD}
    ·let⟨o,e,d⟩:=T.obj _ _ st5 b hb
     exact(I6'.pin (b,o) (zF _ (zF _ (eL hb e)))).2.1
   | true=>
   rw[yF rfl] at q6' ⊢;refine bR (he G2.objs.size s2 H2 fp _ s6' U6 H6' _ I6' q6') λv s7 zz=>?_;let⟨y,H7,I7,r7,m',hm,w7⟩:=zz;let inD:(↑s2,({cls:=.type "list",data:=.seq its.toArray k}:Obj))∈Y.pn++([(↑s2,({cls:=.type "list",data:=.seq its.toArray k}:Obj))]++nQ fp s5.heap):=by show _∈[]++_;simp
   let⟨pD,nD,neD,fD,dD⟩:=I7.pin _ inD;let hlen:=⇑rv3;refine wpAny_list_append_plain (items:=its.toArray) (hsz:=by rw[zU];ext) {(k),pD} λg8 pl8 sb8=>?_;let⟨k8,e8⟩:=pl8;let I7':Inv Y [] U6 H7 s7:=I7.kE λp hp=>nomatch hp;let I8:Inv Y [] U6 H7 {s7 with heap:=g8}:=I7'.turned (t':=s7.toks) (λb o hb e=>sb8.extBut b o hb e) nD neD (.inr (zh _)) (λx c e=>(cl2 x c e).2.2) (λp hp=>(nomatch (show p∈([]:List (wV×Obj)) from hp)));let e8':g8.get? ↑s2=some {cls:=.type "list",data:=.seq (its++[v]).toArray k8}:=by rw[e8];simp
   let fpD:∀b∈fp,∀o,s5.heap.get? b=some o->g8.get? b=some o:=λb hb o e=>sb8.extBut b o (below b (fplt b hb)).2 (I7.pin (b,o) (zF _ (zF _ (eL hb e)))).1;refine{m',hm,i+1,U6,H7,xs++[y],its++[v],k8,I8.kE λp hp=>?_,T.keep _ _ _ st5 fpD,λb hb=>?_,rv3.append (.cons r7 .nil),w7}
   ·let e:p=(↑s2,{cls:=.type "list",data:=.seq (its++[v]).toArray k8}):=by simpa using hp
    subst e;exact{e8',nD,neD,fD,λv z=>by cases z}
   ·let⟨o,e,d⟩:=T.obj _ _ st5 b hb
    exact(I7.pin (b,o) (zF _ (zF _ (eL hb e)))).2.1
 exact codeAny_compStart_list (loop _) (T.self _ _ _ _ _ (T.keep _ _ _ st2 λb _ o e=>old b o e) (loop _))
def GF {elt target iter:Expr} {scope:Scope} {N:List Str} {fr:List (Option Nat)} {cl:List (Str×wV)} {wi:TI} {g:TG} {tc:TT} {te:TE} {ifs:List Expr} (hc:X.calm=true) (hclos:closureFor scope X.env=pure cl) (hsub:∀x c,cl.lookup x=some c->X.env.cells.lookup x=some c) (hhas:∀C x,((compEnvC scope cl C X.env).kindOf x=some .cell\/(compEnvC scope cl C X.env).kindOf x=some .free)->(∃c,cl.lookup x=some c)\/∃c,(cellsFrom (C+1) scope.names []).lookup x=some c)
  (hlen:⇑fr=N.length) (hfr:∀(i:Nat) x j,N[i]?=some x->fr[i]?=some (some j)->X.N[j]?=some x/\LW X.env.scope x/\X.env.kindOf x≠some .local/\(∀C,(compEnvC scope cl C X.env).kindOf x=some .cell\/(compEnvC scope cl C X.env).kindOf x=some .free)/\(∀c,X.env.cells.lookup x=some c->cl.lookup x=some c)/\∀C,(cellsFrom (C+1) scope.names []).lookup x=none) (hkind:scope.kind=.function)
  (hnames:∀y∈scope.names,y.2=.local->scope.names.lookup y.1=some .local) (hi:PI X target iter wi)
  (hg:∀C s₀ H₀ ex,PG (bI X N scope cl C s₀ H₀ ex) target g) (hif:∀C s₀ H₀ ex,Lj (bI X N scope cl C s₀ H₀ ex) ifs tc) (he:∀C s₀ H₀ ex,PE (bI X N scope cl C s₀ H₀ ex) elt te) (hs:(∀x,foldedSetIterable iter X.env x=pure x)<|>qd_) :
  PE X (.ListComp elt [{target,iter,ifs,0}] scope pos) (jJ fr wi g tc te):=by
 intro pins s U H Q I h;rw[eval_ListComp];refine wpAny_comprehension_free (use:=none) (cl:=cl) rfl hs hclos hkind hnames (bR (hi pins s U H _ I h) λxv s1 h1=>bR h1 λitv s2 h2=>?_);let⟨it,fp,tn,J,H2,e,I2,T,st2,f2,ok⟩:=h2;subst e;refine rP (RR:=λacc C=>compPost (model X.prog X.w) X.A X.xe none (EP X pins U Q) acc C) hc hsub hhas hlen hfr hkind hg hif he I2 T st2 f2 ok ?_;intro D C s4 H' xs hD hC hne I4 nD nC ⟨m,hm⟩ qn;refine{m,hm,λg5 hs5=>{.ref D,upd H' D (.lst xs),I2.OF hC I4 (by rw[ao hne];exact nC) hs5,rfl,qn D nD}}
def GB {elt target iter:Expr} {scope:Scope} {N:List Str} {fr:List (Option Nat)} {cl:List (Str×wV)} {wi:TI} {g:TG} {tc:TT} {te:TE} {ifs:List Expr} (hc:X.calm=true) (hclos:closureFor scope X.env=pure cl) (hsub:∀x c,cl.lookup x=some c->X.env.cells.lookup x=some c) (hhas:∀C x,((compEnvC scope cl C X.env).kindOf x=some .cell\/(compEnvC scope cl C X.env).kindOf x=some .free)->(∃c,cl.lookup x=some c)\/∃c,(cellsFrom (C+1) scope.names []).lookup x=some c)
  (hlen:⇑fr=N.length) (hfr:∀(i:Nat) x j,N[i]?=some x->fr[i]?=some (some j)->X.N[j]?=some x/\LW X.env.scope x/\X.env.kindOf x≠some .local/\(∀C,(compEnvC scope cl C X.env).kindOf x=some .cell\/(compEnvC scope cl C X.env).kindOf x=some .free)/\(∀c,X.env.cells.lookup x=some c->cl.lookup x=some c)/\∀C,(cellsFrom (C+1) scope.names []).lookup x=none) (hkind:scope.kind=.function)
  (hnames:∀y∈scope.names,y.2=.local->scope.names.lookup y.1=some .local) (hi:PI X target iter wi)
  (hg:∀C s₀ H₀ ex,PG (bI X N scope cl C s₀ H₀ ex) target g) (hif:∀C s₀ H₀ ex,Lj (bI X N scope cl C s₀ H₀ ex) ifs tc) (he:∀C s₀ H₀ ex,PE (bI X N scope cl C s₀ H₀ ex) elt te) (hs:(∀x,foldedSetIterable iter X.env x=pure x)<|>qd_)  {i:Nat} {x:Str} {ps pa:Pos} (hN:X.N.Nodup) (hx1:X.N[i]?=some x) (hx2:Loc X.env.scope x) (hsw:swapsWith (.ListComp elt [{target,iter,ifs,0}] scope pos) (some (.Name x ps)) pa.line X.env=pure true<|>qe_)
  (hf:X.fn x=true\/X.env.scope.names.lookup x=some .local<|>qa_) :
  PS X (.Assign [.Name x ps] (.ListComp elt [{target,iter,ifs,0}] scope pos) pa) (jK (jJ fr wi g tc te) (bH i)):=by
 intro pins s U H D I h;rw[exec_Assign_Name_used _ _ _ _ hsw];refine yj (wpAny_standAt (yj ?_));show wpAny _ X.A (do let _ <-comprehension (.ListComp elt [{target,iter,ifs,0}] scope pos) scope X.env _ (newList []) false (eval iter X.env) (some (assign (.Name x ps) X.env))) _ _ s;refine yj (yV (wpAny_comprehension_free (use:=some (assign (.Name x ps) X.env)) (cl:=cl) (Q:=λ_ s'=>SP X pins D .next s') rfl hs hclos hkind hnames (bR (hi pins s U H _ I h) λxv s1 h1=>bR h1 λitv s2 h2=>?_)) (λ_ s' hq=>ym (ym hq)) λ_ _ e=>e);let⟨it,fp,tn,J,H2,e,I2,T,st2,f2,ok⟩:=h2;subst e;refine rP (RR:=λacc C=>compPost (model X.prog X.w) X.A X.xe (some (assign (.Name x ps) X.env)) (λ_ s'=>SP X pins D .next s') acc C) hc hsub hhas hlen hfr hkind hg hif he I2 T st2 f2 ok ?_;intro E C s4 H' xs hE hC hne I4 nE nC ⟨m,hm⟩ qn;show wpAny _ X.A (assign (.Name x ps) X.env (.ref E)) _ _ s4;refine wpAny_assign_Name (uC I4 hN hx1 hx2 (v:=.ref E) rfl (λs5 I5 hw=>?_) hf);let⟨aw,sb,ha⟩:=hw;let hCn:(upd H' E (.lst xs)) C=none:=by rw[ao hne];exact nC
 let⟨f0,f1,f2',f3,f4,f5⟩:=I2.tJ hC hCn;let neC:C≠aw:=by
  rcases ha with z | z
  ·rw[z];exact f1
  ·exact λq=>f4 x aw z q.symm
 refine{m,hm.sameBut sb neC,λg6 hs6=>?_};exact{_,_,I2.OF hC I5 hCn hs6,qn E nE}
end
def Bp (cells:List (Str×wV)):List (Str×wV)->Prop
 | []=>True
 | p::r=>cells.lookup p.1=some p.2/\Bp cells r
theorem Bp.sub:∀{cl:List (Str×wV)},Bp cells cl->∀x c,cl.lookup x=some c->cells.lookup x=some c
 | [],_,x,c,e=>by cases e
 | (y,d)::r,h,x,c,e=>by
  rw[yg] at e;split at e
  ·rename_i q
   cases e;rw[eq_of_beq q];exact h.1
  ·exact Bp.sub h.2 x c e
def Hn (X:Cx) (scope:Scope) (cl:List (Str×wV)):List Str->List Nat->Prop
 | [],[]=>True
 | y::ys,j::js=>(X.N[j]?=some y/\(X.env.kindOf y=some .cell\/X.env.kindOf y=some .free)/\((relabel scope X.env).names.lookup y=some .cell\/(relabel scope X.env).names.lookup y=some .free)/\∃c,X.env.cells.lookup y=some c/\cl.lookup y=some c)/\Hn X scope cl ys js
 | _,_=>False
theorem Hn.len:∀{ys:List Str} {js:List Nat},Hn X scope cl ys js->⇑js=⇑ys
 | [],[],_=>rfl
 | _::_,_::_,h=>by rw[zo,zo,Hn.len h.2]
 | [],_::_,h=>h.elim
 | _::_,[],h=>h.elim
theorem Hn.get:∀{ys:List Str} {js:List Nat} {i:Nat} {y:Str} {j:Nat},Hn X scope cl ys js->ys[i]?=some y->js[i]?=some j->
  X.N[j]?=some y/\(X.env.kindOf y=some .cell\/X.env.kindOf y=some .free)/\((relabel scope X.env).names.lookup y=some .cell\/(relabel scope X.env).names.lookup y=some .free)/\∃c,X.env.cells.lookup y=some c/\cl.lookup y=some c
 | [],_,_,_,_,_,e,_=>by simp at e
 | _::_,[],_,_,_,h,_,_=>h.elim
 | y::ys,j::js,0,_,_,h,e,e'=>by simp at e e';subst e e';exact h.1
 | y::ys,j::js,i+1,_,_,h,e,e'=>Hn.get (i:=i) h.2 (by simpa using e) (by simpa using e')
theorem ET:∀{names:List (Str×NameKind)} {n:Nat} {x:Str} {c:wV},(cellsFrom n names []).lookup x=some c->(x,NameKind.cell)∈names
 | [],_,_,_,e=>by cases e
 | (y,k)::r,n,x,c,e=>by
  unfold cellsFrom at e;split at e
  ·rename_i hk
   rw[bW,xY] at e;cases q:(cellsFrom (n+1) r []).lookup x with
   | some d=>exact zj _ (ET q)
   | none=>
    rw[q] at e;let e':([(y,n)]:List (Str×wV)).lookup x=some c:=e;rw[yg] at e';split at e'
    ·rename_i z
     rw[eq_of_beq z,eq_of_beq hk];exact zk
    ·cases e'
  ·exact zj _ (ET e)
theorem EU:∀{names:List (Str×NameKind)} {n:Nat} {x:Str},(x,NameKind.cell)∈names->∃c,(cellsFrom n names []).lookup x=some c
 | [],_,_,h=>by cases h
 | (y,k)::r,n,x,h=>by
  unfold cellsFrom;split
  ·rw[bW,xY]
   cases q:(cellsFrom (n+1) r []).lookup x with
   | some d=>exact{(d),rfl}
   | none=>
    rcases zA.mp h with h | h
    ·let⟨e1,_⟩:=Prod.mk.inj h
     exact{n,by show([(y,n)]:List (Str×wV)).lookup x=some n;rw[e1,yg,xO]}
    ·let⟨c,e⟩:=EU (n:=n+1) h
     rw[q] at e;cases e
  ·rename_i hk
   rcases zA.mp h with h | h
   ·cases h;exact absurd rfl hk
   ·exact EU h
theorem oO:∀{L:List (Str×NameKind)} {x:Str} {k:NameKind},L.lookup x=some k->(x,k)∈L
 | [],_,_,h=>by cases h
 | (y,j)::r,x,k,h=>by
  rw[yg] at h;split at h
  ·rename_i q;cases h;rw[eq_of_beq q];exact zk
  ·exact zj _ (oO h)
section
variable {X:Cx} {pos:Pos} {elt target iter:Expr} {ifs:List Expr} {scope:Scope} {ts ys:List Str} {js:List Nat} {cl:List (Str×wV)} {wi:TI} {g:TG} {tc:TT} {te:TE}
def vi (hcl:Bp X.env.cells cl) (hLo:((relabel scope X.env).names.all λp=>(p.2 != .cell&&p.2 != .free)||ys.contains p.1||scope.names.contains (p.1,.cell))=true) (hno:∀p∈scope.names,p.2=.cell->p.1∉ys) (hfr:Hn X scope cl ys js) :
  (∀(C:wV) x,((compEnvC scope cl C X.env).kindOf x=some .cell\/(compEnvC scope cl C X.env).kindOf x=some .free)->(∃c,cl.lookup x=some c)\/∃c,(cellsFrom (C+1) scope.names []).lookup x=some c)/\
  ⇑(ts.map (λ_=>(none:Option Nat))++js.map some)=⇑(ts++ys)/\
  (∀(i:Nat) x j,(ts++ys)[i]?=some x->(ts.map (λ_=>(none:Option Nat))++js.map some)[i]?=some (some j)->X.N[j]?=some x/\LW X.env.scope x/\X.env.kindOf x≠some .local/\(∀C,(compEnvC scope cl C X.env).kindOf x=some .cell\/(compEnvC scope cl C X.env).kindOf x=some .free)/\(∀c,X.env.cells.lookup x=some c->cl.lookup x=some c)/\∀C,(cellsFrom (C+1) scope.names []).lookup x=none):=by
 refine{λC x hx=>?_,by simp[Hn.len hfr],λi x j h1 h2=>?_}
 ·let key:∀k,(relabel scope X.env).names.lookup x=some k->(k=.cell\/k=.free)->(∃c,cl.lookup x=some c)\/∃c,(cellsFrom (C+1) scope.names []).lookup x=some c:=λk hk hk'=>by
   have:=(yf.mp hLo) _ (oO hk);rw[Bool.or_eq_true,Bool.or_eq_true] at this;rcases this with(z | z) | z
   ·rcases hk' with rfl | rfl <;> simp at z
   ·let hm:x∈ys:=List.contains_iff_mem.mp z
    let⟨n,hn⟩:=List.getElem?_of_mem hm;let hl:n<⇑js:=by rw[hfr.len];exact(zt.mp hn).1
    let⟨_,_,_,c,_,e⟩:=hfr.get hn (zb hl);exact .inl {(c),e}
   ·exact .inr (EU (List.contains_iff_mem.mp z))
  rcases hx with hx | hx
  ·exact key _ hx (.inl rfl)
  ·exact key _ hx (.inr rfl)
 ·let hi:⇑ts<=i:=by
   rcases xn i ⇑ts with h | h
   ·rw[xQ (by simpa using h),zH] at h2
    cases q:ts[i]? with
    | none=>rw[q] at h2;cases h2
    | some z=>rw[q] at h2;cases h2
   ·exact h
  rw[zT hi] at h1;rw[zT (by simpa using hi),za,zH] at h2;let h2':js[i-⇑ts]?=some j:=by
   cases q:js[i-⇑ts]? with
   | none=>rw[q] at h2;cases h2
   | some z=>rw[q] at h2;cases h2;rfl
  let⟨k1,k2,k3,c,k4,k5⟩:=hfr.get h1 h2';refine{k1,.inr k2,λz=>?_,λC=>k3,λd hd=>?_,λC=>?_}
  ·rcases k2 with k2 | k2 <;> (rw[z] at k2;cases k2)
  ·rw[k4] at hd;cases hd;exact k5
  ·cases q:(cellsFrom (C+1) scope.names []).lookup x with
   | none=>rfl
   | some d=>exact absurd (zy h1) (hno _ (ET q) rfl)
def IJ (hc:X.calm=true) (hclos:closureFor scope X.env=pure cl) (hcl:Bp X.env.cells cl) (hLo:((relabel scope X.env).names.all λp=>(p.2 != .cell&&p.2 != .free)||ys.contains p.1||scope.names.contains (p.1,.cell))=true) (hno:∀p∈scope.names,p.2=.cell->p.1∉ys) (hfr:Hn X scope cl ys js) (hkind:scope.kind=.function)
  (hnames:∀y∈scope.names,y.2=.local->scope.names.lookup y.1=some .local) (hi:PI X target iter wi)
  (hg:∀C s₀ H₀ ex,PG (bI X (ts++ys) scope cl C s₀ H₀ ex) target g) (hif:∀C s₀ H₀ ex,Lj (bI X (ts++ys) scope cl C s₀ H₀ ex) ifs tc) (he:∀C s₀ H₀ ex,PE (bI X (ts++ys) scope cl C s₀ H₀ ex) elt te) (hs:(∀x,foldedSetIterable iter X.env x=pure x)<|>qd_) :
  PE X (.ListComp elt [{target,iter,ifs,0}] scope pos) (jJ (ts.map (λ_=>none)++js.map some) wi g tc te):=by
 let⟨a,b,c⟩:=vi (ts:=ts) hcl hLo hno hfr;exact GF hc hclos hcl.sub a b c hkind hnames hi hg hif he hs
def Iy (hc:X.calm=true) (hclos:closureFor scope X.env=pure cl) (hcl:Bp X.env.cells cl) (hLo:((relabel scope X.env).names.all λp=>(p.2 != .cell&&p.2 != .free)||ys.contains p.1||scope.names.contains (p.1,.cell))=true) (hno:∀p∈scope.names,p.2=.cell->p.1∉ys) (hfr:Hn X scope cl ys js) (hkind:scope.kind=.function)
  (hnames:∀y∈scope.names,y.2=.local->scope.names.lookup y.1=some .local) (hi:PI X target iter wi)
  (hg:∀C s₀ H₀ ex,PG (bI X (ts++ys) scope cl C s₀ H₀ ex) target g) (hif:∀C s₀ H₀ ex,Lj (bI X (ts++ys) scope cl C s₀ H₀ ex) ifs tc) (he:∀C s₀ H₀ ex,PE (bI X (ts++ys) scope cl C s₀ H₀ ex) elt te) (hN:X.N.Nodup) (hx1:X.N[i]?=some x) (hx2:Loc X.env.scope x) (hs:(∀x,foldedSetIterable iter X.env x=pure x)<|>qd_) (hsw:swapsWith (.ListComp elt [{target,iter,ifs,0}] scope pos) (some (.Name x ps)) pa.line X.env=pure true<|>qe_)
  (hf:X.fn x=true\/X.env.scope.names.lookup x=some .local<|>qa_) :
  PS X (.Assign [.Name x ps] (.ListComp elt [{target,iter,ifs,0}] scope pos) pa) (jK (jJ (ts.map (λ_=>none)++js.map some) wi g tc te) (bH i)):=by
 let⟨a,b,c⟩:=vi (ts:=ts) hcl hLo hno hfr;exact GB hc hclos hcl.sub a b c hkind hnames hi hg hif he hs hN hx1 hx2 hsw hf
end
def Ho (n:Nat) (f:Nat->List V) (Pv:Nat->St->Hp->Prop) (i m:Nat) (xs:List V) (U:St) (H:Hp):Prop:=m=n-i/\i<=n/\xs=f i/\Pv i U H
def Ho.push (hi:i<n) (e:f (i+1)=f i++[y]) (p:Pv (i+1) U H):∃m',m'<n-i/\Ho n f Pv (i+1) m' (f i++[y]) U H:={n-(i+1),(),rfl,hi,e.symm,p}
def Ho.skip (hi:i<n) (e:f (i+1)=f i) (p:Pv (i+1) U H):∃m',m'<n-i/\Ho n f Pv (i+1) m' (f i) U H:={n-(i+1),(),rfl,hi,e.symm,p}
def m6 (n:Nat) (f:Nat->List V) (Pv:Nat->St->Hp->Prop) (hz:∀i,i<=n->⇑(f i)<=i) (hn:n<=sizeLine) (f0:f 0=[]) (h0:Pv 0 U₀ H1)
  (go:∀i U H,i<n->Pv i U H->J.go i H) (stop:∀U H,Pv n U H->J.stop n H)
  (turn:∀i x U H H2,i<n->Pv i U H->J.HD i H x H2->g x U H2 λU3 H3=>tc U3 H3 λb H4=>if b=true then te U3 H4 λy H5=>∃m',m'<n-i/\Ho n f Pv (i+1) m' (f i++[y]) U3 H5 else∃m',m'<n-i/\Ho n f Pv (i+1) m' (f i) U3 H4)
  (fin:∀U H,Pv n U H->∀D,H D=none->Q (.ref D) (upd H D (.lst (f n)))):dE U₀ g tc te Q J H1:=by
 refine{Ho n f Pv,{n,by simp,zZ _,f0.symm,h0},?_};rintro i m xs U H ⟨rfl,hi,rfl,p⟩;have:=hz i hi;rcases xn i n with hlt | hge
 ·exact .inr {go i U H hlt p,(),λx H2 y=>turn i x U H H2 hlt p y}
 ·let e:i=n:=()
  subst e;exact .inl {stop U H p,(),fin U H p}
section
variable {X:Cx}
def Aa (bs:List Bool):((List.range ⇑bs).any λi=>(bs[i]?).getD false)=bs.any id:=by
 rw[xr,ye,ye];constructor
 ·rintro⟨i,hi,e⟩
  let hi':=yI.mp hi;rw[zb hi'] at e;exact{_,yc hi',e}
 ·rintro⟨b,hb,e⟩
  let⟨i,hi,e'⟩:=List.mem_iff_getElem.mp hb;exact{i,yI.mpr hi,by rw[zb hi,e'];exact e}
def iG (hc:X.calm=true):cZ X (.builtin "any") (λxs H Q=>∃(a:wV) (bs:List Bool),xs=[.ref a]/\aD X.K H a (bs.map V.bl)/\Q (.bl (bs.any id)) H):=by
 intro pins s U H xs us Q I r h;let⟨a,bs,e,hq,q⟩:=h;subst e;cases r with
 | cons r rr=>
  cases rr;cases r;let⟨its,rv,p,hz⟩:=I.list hq;let hlt:a<↑s:=by let⟨o,n,e,_⟩:=p;exact yo e
  let hlen:⇑bs=⇑its:=by have:=⇑rv;rw[za] at this;exact this
  refine call_any_walk (wb p.isList ?_);refine{↑s,[↑s,a],[↑s],its.toArray.size,_,_,λi=>(bs[i]?).getD false,rfl,Walks.list (A:=X.A.in1) (I.ok.hd hc) _ a (ya hlt) its.toArray,
   {{_,yn _ rfl,rfl,rfl},p.isList.push _},λi v s' Q' E' hP hQ=>?_,λh' tk hk=>?_}
  ·let hP':its[i]?=some v:=by simpa using hP
   let hi:i<⇑bs:=by rw[hlen];exact(zt.mp hP').1
   let hm:(bs.map V.bl)[i]?=some (.bl bs[i]):=by rw[zH,zb hi];rfl
   let⟨u,hu,ru⟩:=rv.get hm;rw[hP'] at hu;cases hu;cases ru;dsimp only at hQ;rw[zb hi] at hQ;exact yW hQ
  ·let e:((List.range its.toArray.size).any λi=>(bs[i]?).getD false)=bs.any id:=by rw[zU,<-hlen];exact Aa bs
   rw[e];exact{.bl _,H,I.kept λb o x=>hk b o (λhm=>by rw[zv.mp hm] at x;exact zY _ (yo x)) (yk _ x),rfl,q}
end
section
variable {prog:wO} {w:wQ} {A:wR} {E:wM->wN->Prop} {s:wN}
def tX (hl:IsTup s.heap l vs.toArray)
  (h:Q vs {s with heap:=(s.heap.push (seqObj "list" #[] 0)).update ↑s (Obj.mapSeq (·++vs.toArray))}) (hsz:⇑vs<=sizeLine) :
  wpAny (model prog w) A (collect (.ref l)) Q E s:=by
 let⟨o,ho,hc,n,hd⟩:=id hl;unfold collect;refine yj (wpAny_runValue (xD entry_proto_collect' ?_));show wpAny _ _ (do again (.builtin "list.__iadd__" {[<-newList [],.ref l],[]})) _ _ s;refine yj (wpAny_newList (ym {Code.quiet_builtin _ (by decide +kernel),xD entry_list_iadd' ?_}));show wpAny _ _ (Builtin.List.listExtendWith (.ref ↑s) (.ref l) (.ref ↑s)) _ _ {s with heap:=s.heap.push (seqObj "list" #[] 0)};unfold Builtin.List.listExtendWith;let ho':(s.heap.push (seqObj "list" #[] 0)).get? l=some o:=yk _ ho;refine yj (wC (T:="tuple") {(o),ho',hc} ?_);let ht:(Value.type "tuple"== Value.type "tuple")=true:=by rfl
 rw[yF (by rw[ht];simp)];refine yj (listItems_at ho' hd ?_);refine yj (listItems_at (xs:=#[]) (n:=0) (yn _ rfl) rfl ?_);rw[yE (by simp)];refine yj (listUpdate_at (xs:=#[]) (n:=0) (yn _ rfl) rfl ?_ (zZ _) (by show(#[]++vs.toArray).size<=sizeLine+1;simp only[Array.size_append,zU,y7];ext));refine ym ?_;show wpAny (model prog w) A (do
   let o <-load ↑s
   match o.data with
   | .seq xs _=>pure xs.toList
   | _=>unsupported "internal:collect") Q E {s with heap:=(s.heap.push (seqObj "list" #[] 0)).update ↑s (Obj.mapSeq (·++vs.toArray))}
 refine yj (wpAny_load (get?_update_seq (yn _ rfl) _) ?_);show wpAny _ _ (pure ((#[]:Array wM)++vs.toArray).toList) Q E _;rw[show((#[]:Array wM)++vs.toArray).toList=vs by simp];exact ym h
def DS (hl:IsTup s.heap l vs.toArray) (hI:IntsAre vs ns) (h64:⇑vs<64)
  (h:∀(out:Array wM) (ns':List Int),IntsAre out.toList ns'->ns'.Perm ns->ns'.Pairwise (·<=·)->Q (.ref (↑s+1)) {s with heap:=sortedAll s.heap vs out}) :
  wpAny (model prog w) A (call (.builtin "sorted") [.ref l]) Q E s:=by
 refine Calls.call_function_entry kind_sorted plain_sorted entry_sorted (args_sorted1 _) ?_;unfold Builtin.«sorted»;refine yj (m:=checkCount "sorted" 1 1 _) (ym ?_);refine yj (tX hl ?_ (by rw[yt];ext));refine yj (wpAny_newList ?_);let hsz:((s.heap.push (seqObj "list" #[] 0)).update ↑s (Obj.mapSeq (·++vs.toArray))).objs.size=↑s+1:=by
  rw[Heap.size_update,size_push']
 let hoL:(((s.heap.push (seqObj "list" #[] 0)).update ↑s (Obj.mapSeq (·++vs.toArray))).push (seqObj "list" vs.toArray 0)).get? (↑s+1)=some (seqObj "list" vs.toArray 0):=by
  rw[<-hsz];exact yn _ rfl
 show wpAny _ _ _ _ _ {s with heap:=((s.heap.push (seqObj "list" #[] 0)).update ↑s (Obj.mapSeq (·++vs.toArray))).push (seqObj "list" vs.toArray 0)};rw[hsz];refine yj (xo (yT slot_list_sort {_,hoL,rfl} entry_list_sort (list_sort_tree hoL hI h64 λout ns' a1 a2 a3=>{_,rfl,?_}) (args_list_sort _)));exact ym {_,rfl,h out ns' a1 a2 a3}
def sI (h:wW) (vs:List wM) (out:Array wM):∃n,(sortedAll h vs out).get? (h.objs.size+1)=some {cls:=.type "list",data:=.seq out n}:=by
 let hsz:((h.push (seqObj "list" #[] 0)).update h.objs.size (Obj.mapSeq (·++vs.toArray))).objs.size=h.objs.size+1:=by rw[Heap.size_update,size_push']
 let h1:(((h.push (seqObj "list" #[] 0)).update h.objs.size (Obj.mapSeq (·++vs.toArray))).push (seqObj "list" vs.toArray 0)).get? (h.objs.size+1)=some (seqObj "list" vs.toArray 0):=by
  rw[<-hsz];exact yn _ rfl
 unfold sortedAll sortedHeap;let h2:=get?_update_seq h1 (λ_=>#[]);let h3:=yk (seqObj "list" #[] 0) (yk (seqObj "tuple" vs.toArray 0) h2);exact{_,get?_update_seq h3 (λ_=>out)}
def pd (h:wW) (vs:List wM) (out:Array wM) (b:wV) (o:Obj) (e:h.get? b=some o):(sortedAll h vs out).get? b=some o:=by
 let hb:b<h.objs.size:=yo e;unfold sortedAll sortedHeap;let n1:h.objs.size≠b:=z9 hb;let n2:h.objs.size+1≠b:=z9 (wc hb);rw[yp _ _ n2];refine yk _ (yk _ ?_);rw[yp _ _ n2];refine yk _ ?_;rw[yp _ _ n1];exact yk _ e
end
theorem mr:∀{us:List wM} {ns:List Int},IntsAre us ns->Vals (ns.map V.int) us
 | _,_,.nil=>.nil
 | _,_,.cons r t h=>.cons {_,rfl} (mr h)
section
variable {X:Cx}
def m7:cZ X (.builtin "sorted") (λxs H Q=>∃(a:wV) (ns:List Int),xs=[.ref a]/\(aD X.K H a (ns.map V.int)\/cx X.K H a (ns.map V.int))/\⇑ns<64/\∀ns':List Int,ns'.Perm ns->ns'.Pairwise (·<=·)->∀l,H l=none->Q (.ref l) (upd H l (.lst (ns'.map V.int)))):=by
 intro pins s U H xs us Q I r h;let⟨a,ns,rfl,hq,h64,q⟩:=h;let⟨u,rfl,rx⟩:=vals1 r;cases rx;let fin:∀(its:List wM),⇑ns=⇑its->∀(out:Array wM) (ns':List Int),IntsAre out.toList ns'->ns'.Perm ns->ns'.Pairwise (·<=·)->EP X pins U Q (.ref (↑s+1)) {s with heap:=sortedAll s.heap its out}:=λits hl out ns' a1 a2 a3=>by
  let⟨n,hn⟩:=sI s.heap its out;refine{.ref _,_,I.laid (t':=s.toks) (a:=↑s+1) (o:=.lst (ns'.map V.int)) (pd s.heap its out) (xI _) ?_,rfl,q ns' a2 a3 _ (I.aT.fresh (xI _))};refine{by rw[za,a2.length_eq,yt];ext,out.toList,n,mr a1,by simpa using hn}
 rcases hq with hq | hq
 ·let⟨its,rv,p,_⟩:=I.list hq
  let hl:⇑ns=⇑its:=by have:=⇑rv;rw[za] at this;exact this
  exact sorted_ints p.isList (intsAre_of rv) () (fin its hl)
 ·let⟨its,rv,p,_⟩:=I.tuple hq
  let hl:⇑ns=⇑its:=by have:=⇑rv;rw[za] at this;exact this
  exact DS p (intsAre_of rv) () (fin its hl)
theorem Fo:∀{zs:List Str} {us:List wM},Vals (zs.map V.str) us->∃l:List (Str×Tok),us=strValues l/\l.map (·.1)=zs
 | [],_,.nil=>{[],rfl,rfl}
 | z::zs,_,.cons ⟨t,e⟩ r=>by
  let⟨l,e1,e2⟩:=Fo r;subst e e1 e2;exact{(z,t)::l,rfl,rfl}
def rJoin (K:yr):V->List V->Hp->VK->Prop:=λx vs H Q=>∃(sep:Str) (a:wV) (zs:List Str),x=.str sep/\vs=[.ref a]/\aD K H a (zs.map V.str)/\(zs.map (λz:Str=>⇑z+⇑sep)).sum<=sizeLine/\Q (.str (Str.join sep zs)) H
theorem CK (sep:Str):∀(zs:List Str) (k:Nat),zs.foldl (λn z=>n+⇑z+⇑sep) k=k+(zs.map (λz:Str=>⇑z+⇑sep)).sum
 | [],k=>by simp
 | z::zs,k=>by
  rw[List.foldl_cons,CK sep zs,zf,wo];ext
theorem Fm (sep:Str):∀zs:List Str,(zs.map (·.length)).sum+⇑zs*⇑sep=(zs.map (λz:Str=>⇑z+⇑sep)).sum
 | []=>by simp
 | z::zs=>by
  let ih:=Fm sep zs;simp only[zf,wo,zo,Nat.succ_mul] at ih ⊢;ext
def i0:NC X "str.join" (rJoin X.K):=by
 intro pins s U H x vs v us Q I rx rv h;let⟨sep,a,zs,rfl,rfl,hq,hz,q⟩:=h;let⟨tk,rfl⟩:=rx;let⟨u,rfl,ru⟩:=rv.one;cases ru;let⟨its,ri,p,_⟩:=I.list hq;let⟨l,e1,e2⟩:=Fo ri;subst e1;let hl:Builtin.Str.tooLong ((l.map (·.1)).toArray.foldl (·+·.length+⇑sep) 0)=false:=by
  rw[e2,List.foldl_toArray,CK,Nat.zero_add];exact zc ()
 let hj:Builtin.Str.glued sep (l.map (·.1))=Str.join sep zs:=by rw[e2];exact StrLaws.glued_eq_join sep zs
 let jl:⇑(Str.join sep zs)<=sizeLine:=by
  exact zJ (StrLaws.join_length_le sep zs) (zJ (Nat.le_of_eq (Fm sep zs)) hz)
 refine xW F.slot_str_join (wk s sep tk) F.entry_str_join (F.args_str_join_2 _ _) (meets_str_join_list sep tk a l hl) {p.isList,?_}
 match l,e2,hj with
 | [],e2,hj=>
  subst e2;exact{by rw[hj];exact jl,.str _,H,I.tok _,{_,rfl},by rw[hj];exact q}
 | [z],e2,hj=>
  subst e2;exact{.str _,H,I,{_,rfl},q}
 | z::z'::r,e2,hj=>
  subst e2;exact{by rw[hj];exact jl,.str _,H,I.tok _,{_,rfl},by rw[hj];exact q}
def nJ (x:Str) (n:Nat):Str:={(List.replicate n x.cps).foldl (·++·) #[]}
def LH:R2:=λx y H Q=>∃(t:Str) (n:Int),x=.str t/\y=.int n/\0<=n/\n<=1000/\⇑t<=1000/\Q (.str (nJ t n.toNat)) H
def qC (x:Str) (n:Nat):(nJ x n).cps.toList=(List.replicate n x.cps.toList).flatten:=by
 let key:∀(n:Nat) (a:Array Nat),((List.replicate n x.cps).foldl (·++·) a).toList=a.toList++(List.replicate n x.cps.toList).flatten:=by
  intro n
  induction n with
  | zero=>intro a;simp
  | succ n ih=>intro a;rw[List.replicate_succ,List.foldl_cons,ih,List.replicate_succ,List.flatten_cons];simp
 have:=key n #[];show((List.replicate n x.cps).foldl (·++·) #[]).toList=_;rw[this];rfl
def Ih (x:Str) (n:Nat):⇑(nJ x n)=n*⇑x:=by
 let e:⇑(nJ x n)=⇑(nJ x n).cps.toList:=yH.symm;rw[e,qC];let e2:⇑x.cps.toList=⇑x:=yH;simp[e2]
def Ig (x:Str):nJ x 1=x:=iO (by rw[qC];simp)
def KH:ng X (binaryOp .Mult) LH:=by
 intro pins s U H x y v u Q I rx ry h;let⟨t,n,rfl,rfl,h0,h1,hl,q⟩:=h;let⟨tk,rfl⟩:=rx;let⟨tk',rfl⟩:=ry;let sl:=yt;let hm:⇑t*n.toNat<=1000000:=by
  have:⇑t*n.toNat<=1000*1000:=x9 hl ();ext
 refine P.mul_str (by rw[zc (),zc ()];rfl) (λh2 _=>?_) (λ_ _=>zc ()) ?_
 ·have:(2^63-1)/1000<=((2:Int)^63-1)/n:=by
   rw[Int.le_ediv_iff_mul_le ()];have:n*9223372036854775<=1000*9223372036854775:=Int.mul_le_mul_of_nonneg_right h1 ∅;ext
  ext
 ·by_cases c1:n<1
  ·let e:n.toNat=0:=()
   rw[yF c1];rw[e] at q;exact{∅,.str _,H,I.tok _,{_,rfl},q}
  ·rw[yE c1]
   refine post_val_or_str {?_,λt' k=>{.str _,H,I.tok _,{_,rfl},?_}}
   ·split
    ·ext
    ·have:=Ih t n.toNat
     let e:n.toNat*⇑t=⇑t*n.toNat:=Nat.mul_comm _ _;show(nJ t n.toNat).length<=sizeLine;ext
   ·let ee:(if(n == 1||⇑t == 0)=true then t else nJ t n.toNat)=nJ t n.toNat:=by
     split
     ·rename_i c2
      rw[Bool.or_eq_true,wD,wD] at c2;rcases c2 with rfl | c2
      ·exact(Ig t).symm
      ·refine iO ?_
       let e2:t.cps.toList=[]:=yi.mp (by rw[yH];exact c2);rw[qC,e2];simp
     ·rfl
    show Q (.str (if(n == 1||⇑t == 0)=true then t else nJ t n.toNat)) H;rw[ee];exact q
end
def KD (P:wO) (w:wQ) (K:yr) (a:wV) (kvs:List (Str×V)):Prop:=
 (a == sysModules)=false/\(kvs.map (·.1)).Nodup/\∀h:wW,K.In h->∃vs:List (Key×wM),KV (kvs.map λp=>((Sum.inr p.1:Key),p.2)) vs/\h.DictOf (bU P w) a vs
def CS (Pm:Params) (l:List (Str×Tok×wV)):List DictEntry:=l.map λp=>{PyData.keyHash Pm p.1,.str p.1 p.2.1,.ref p.2.2}
theorem IU:∀{l:List Str},l.Nodup->(l.map (Sum.inr:Str->Key)).Nodup
 | [],_=>xJ
 | x::r,h=>by
  rw[zW] at h;rw[zf,zW];exact{λz=>by let⟨y,hy,e⟩:=zE.mp z;exact h.1 (wu e▸hy),IU h.2}
def OH {P:wO} {w:wQ} {K:yr} {a:wV} {l:List (Str×Tok×wV)} {n:Nat} (hl:K.lookup a=some {cls:=.type "dict",data:=.dict (CS w.params l).toArray n}) (hs:(a == sysModules)=false) (nd:(l.map (·.1)).Nodup) :
  KD P w K a (l.map λp=>(p.1,V.ref p.2.2)):=by
 let e1:(l.map λp=>(p.1,V.ref p.2.2)).map (·.1)=l.map (·.1):=by rw[zw];rfl
 refine{hs,by rw[e1];exact nd,λh X=>{l.map λp=>(Sum.inr p.1,.ref p.2.2),?_,_,_,_,X _ _ hl,{(rfl),rfl,rfl},rfl,?_,?_,?_}}
 ·clear hl nd e1
  induction l with
  | nil=>exact .nil
  | cons p r ih=>exact .cons {(rfl),rfl} ih
 ·intro e he
  rw[List.mem_toArray] at he;let⟨p,_,rfl⟩:=zE.mp he;exact{Sum.inr p.1,kJ p.1 p.2.1,rfl}
 ·show PySem.Pairs _ (CS w.params l) _
  clear hl nd e1
  induction l with
  | nil=>exact .nil
  | cons p r ih=>exact .cons (kJ p.1 p.2.1) rfl ih
 ·let e2:(l.map λp=>((Sum.inr p.1:Key),(Value.ref p.2.2))).map (·.1)=(l.map (·.1)).map Sum.inr:=by rw[zw,zw];rfl
  rw[e2];exact IU nd
def nh (kvs:List (Str×V)) (k:Str):Option V:=(kvs.find? λp=>decide (p.1=k)).map (·.2)
theorem Es:∀{kvs:List (Str×V)} {vs:List (Key×wM)} (k:Str),KV (kvs.map λp=>((Sum.inr p.1:Key),p.2)) vs->dU (nh kvs k) (valueAt vs (Sum.inr k))
 | [],_,_,.nil=>trivial
 | (x,v)::r,_,k,.cons (b:=b) h t=>by
  let⟨h1,h2⟩:=h;let⟨bk,bv⟩:=b;dsimp only at h1 h2;subst h1
  by_cases e:x=k
  ·subst e
   simp only[nh,valueAt,yJ,decide_true];exact h2
  ·let ih:=Es k t
   let e':¬((Sum.inr x:Key)=Sum.inr k):=λz=>e (wu z);simp only[nh,valueAt,yJ,e,e',decide_false] at ih ⊢;exact ih
def Mo (P:wO) (w:wQ) (K:yr) (td ty:TE):TE:=λU H Q=>td U H λx H1=>ty U H1 λy H2=>∃a kvs k v,x=.ref a/\KD P w K a kvs/\y=.str k/\nh kvs k=some v/\Q v H2
def N8 (P:wO) (w:wQ) (K:yr) (b:Bool) (ty td:TE):TE:=λU H Q=>ty U H λy H1=>td U H1 λx H2=>∃a kvs k,x=.ref a/\KD P w K a kvs/\y=.str k/\Q (.bl (b ^^ (nh kvs k).isSome)) H2
section
variable {X:Cx} {pos:Pos} {o i:Expr} {td ty:TE}
theorem dU.Eu:∀{a:Option V} {b:Option wM},dU a b->a.isSome=b.isSome
 | some _,some _,_=>rfl
 | none,none,_=>rfl
 | some _,none,h=>h.elim
 | none,some _,h=>h.elim
def B9 (ho:PE X o td) (hi:PE X i ty) (hs:NA i):PE X (.Subscript o i pos) (Mo X.prog X.w X.K td ty):=by
 intro pins s U H Q I h;refine Fn PySem.F.slot_dict_getitem.lookup hs (bR (ho pins s U H _ I h) λu s1 ⟨x,H1,I1,rx,q1⟩=>bR (hi pins s1 U H1 _ I1 q1) λiv s2 zz=>?_);let⟨y,H2,I2,ry,a,kvs,k,v,ex,kd,ey,hv,q2⟩:=zz;subst ex ey;obtain rfl:u=Value.ref a:=rx;let⟨tk,rfl⟩:=ry;let⟨hd,_,hk⟩:=kd;let⟨vs,rel,dd⟩:=hk _ I2.ie;let rv:=Es k rel;rw[hv] at rv;cases hw:valueAt vs (Sum.inr k) with
 | none=>rw[hw] at rv;exact rv.elim
 | some w'=>
  rw[hw] at rv;exact{dd.typeIs,wpAny_getItem_of (kJ k tk) dd.mapOf hw {v,H2,I2.tok _,rv,q2}}
def KA (hi:PE X i ty) (ho:PE X o td):PC X .In i o (N8 X.prog X.w X.K false ty td):=by
 intro pins s U H Q I h;refine bR (hi pins s U H _ I h) λiv s1 ⟨y,H1,I1,ry,q1⟩=>bR (ho pins s1 U H1 _ I1 q1) λu s2 zz=>?_;let⟨x,H2,I2,rx,a,kvs,k,ex,kd,ey,q2⟩:=zz;subst ex ey;obtain rfl:u=Value.ref a:=rx;let⟨tk,rfl⟩:=ry;let⟨hd,_,hk⟩:=kd;let⟨vs,rel,dd⟩:=hk _ I2.ie;refine wpAny_in_of (oM _ _ k tk) hd dd.mapOf ?_;let e:=dU.Eu (Es k rel);exact{.bl _,H2,I2.tok _,rfl,by rw[e,Bool.false_xor] at q2;exact q2}
end
structure NF (X:Cx) (CX:DC) (k:Nat) (f:wV) (sp:Sp):Prop where
 ok:∃fd ps,bL X.prog X.w X.K X.mg X.base CX k f fd ps sp/\PySem.W.keepIn X.K (.ref f)=true/\Binds X.K fd ps []
def Mq (Tb:wV->Sp->Prop) (E:XK) (i:Nat) (t:TA):TE:=λU H Q=>∃f sp,U[i]?=some (some (.ref f))/\Tb f sp/\t U H λvs H1=>sp vs H1 Q E
section
variable {X:Cx} {CX:DC} {k:Nat} {x:Str} {i:Nat} {p pos:Pos} {e:Expr} {es:List Expr} {t:TA} {E:XK}
def Ca (Tb:wV->Sp->Prop) (hT:∀f sp,Tb f sp->NF X CX k f sp) (hr:df k X.A) (hv:PE X (.Name x p) (aK i)) (hx:Passes CX X E)
  (ha:PA X (e::es) t) (he:starEach (e::es) X.env=(false,eval e X.env)::starEach es X.env<|>qe_) (hpl:(backTo pos (starEach es X.env)).any (·.1)=false<|>qe_) :
  PE X (.Call (.Name x p) (e::es) [] pos) (Mq Tb E i t):=by
 intro pins s U H Q I h;let⟨f,sp,hf,hTb,h⟩:=h;let⟨fd,ps,F,hk,hb⟩:=(hT f sp hTb).ok;refine y8 (bR (hv pins s U H (λv H1=>v=.ref f/\H1=H) I {_,hf,rfl,rfl}) λu s1 zz=>?_);let⟨v,H1,I1,rv,ev,eH⟩:=zz;subst ev eH;obtain rfl:u=Value.ref f:=rv;refine wG (h₀:=X.base) I1.ok.mod.KW hk (bR (ha pos pins s1 U _ _ I1 h) λus s2 ⟨vs,H2,I2,r,q⟩=>{I2.ie,?_}) he hpl;exact HZ F hr hb .nil hx I2 r (by rw[zQ];exact q)
end
def N1 (sp:Sp) (t:TA) (C:wV) (th:TS):TS:=λD U H=>t U H λvs H1=>sp vs H1 (λv H2=>D.rt v H2) λcls _ H2=>cls=.ref C/\th D U H2
section
variable {X:Cx} {k:Nat} {f:wV} {fd:wU} {ps:List Str} {sp:Sp} {fx cn:Str} {p pos cpos pa np hpos:Pos} {e₀:Expr} {es:List Expr} {t:TA} {C:wV} {bm:List wM} {newId:String} {b₀:Stmt} {suite:List Stmt} {th:TS}
def Kw (F:bL X.prog X.w X.K X.mg X.base (DB X.prog X.w) k f fd ps sp) (hr:df k X.A) (hg:Gl X fx) (hm:X.mg fx=some (.ref f)) (hk:PySem.W.keepIn X.K (.ref f)=true) (hb:Binds X.K fd ps []) (ha:PA X.Bt (e₀::es) t)
  (hc:X.calm=true) (hgc:Gl X cn) (hC0:PySem.W.nsIn X.K mainGlobals cn=some (some (.ref C))) (hQ0:PySem.W.excIn X.K C bm newId=true) (hbase:bm.contains (.type "BaseException")=true) (hstk:X.stack=X.env::X.outer) (hfrm:X.env.frame=some X.env.locals)
  (hsu:∀e,uk (X.held e).Bt (b₀::suite) th)
  (hdb:(fx == ("__debug__": Str))=false<|>qb_) (hdc:(cn == ("__debug__": Str))=false<|>qb_) (he:starEach (e₀::es) X.env=(false,eval e₀ X.env)::starEach es X.env<|>qe_) (hpl:(backTo cpos (starEach es X.env)).any (·.1)=false<|>qe_) :
  PS X (.Try [.Return (some (.Call (.Name fx p) (e₀::es) [] cpos)) pa] [.ExceptHandler (some (.Name cn np)) none (b₀::suite) hpos] [] [] pos) (N1 sp t C th):=by
 intro pins s U H D I h;let O:OwnCls cn C bm newId X.mg X.base:=iZ X.prog I.ok.mod hC0 hQ0;refine wpAny_Try_except (wpAny_execs_cons ?_);refine wpAny_Return_some ?_;refine y8 (d6 I hg hm ?_ hdb);let hA:wpAny (model X.prog X.w) X.A (spliced (backTo cpos (starEach (e₀::es) X.env))) (AP X.Bt pins U _) (λ_ _=>False) s:=ha cpos pins s U H _ (I.kR _) h;refine wG (h₀:=X.base) I.ok.mod.KW hk (yV hA (λus s1 ⟨vs,H1,I1',r,q⟩=>{I1'.ie,?_}) λ_ _ z=>z.elim) he hpl;let I1:Inv X pins U H1 s1:=I1'.dX;let hl:⇑us=⇑ps:=by rw[<-⇑r];exact F.len _ _ _ _ q
 refine wpAny_call (xA (F.run X.A X.stack s1 H1 {us,[]} us vs _ _ hr I1.GY (by have:=hb s1 us I1.ie (by rw[zQ];exact hl);rw[zQ] at this;exact this) r q) λrr s' hq=>?_);cases rr with
 | ok fl=>
  cases fl with
  | ret u=>
   let⟨v,H2,I2,r2,q2⟩:=I1.after hq;exact{v,U,H2,I2,r2,q2}
  | next=>exact False.elim hq
  | brk=>exact False.elim hq
  | cont=>exact False.elim hq
 | error ev=>
  let⟨a,cls,a0,B,H',rfl,os,bare,fl,fly,⟨rfl,q2⟩⟩:=hq;let AG:∀b∈gr X.stack,H1 b=none:=I1.iP;let nf:∀{hh:wW},Heap.FunFrames hh B X.stack->∀b∈gr X.stack,∃o,hh.get? b=some o/\∀vs,o.data≠.fields vs:=λhF b hb=>(hF.mem hb).2;let back:∀(hh:wW),DD X.prog X.w (gr X.stack) H1 H' s1.heap B hh->Inv X pins U H' {s' with heap:=hh}:=λhh fy=>
   I1.F0 (s':={s' with heap:=hh}) (ch:=[]) os (fy.un AG) (fy.aT.kept fy.gs) bare λb z=>absurd z (by simp)
  let hfr:X.A.frames=some (X.env::X.outer):=by rw[<-hstk];exact I1.ok.frames
  refine wpAny_looks_onW hfr hfrm (by rw[<-hstk];exact fl) λh4 held4 up4=>?_;refine wpAny_landsW held4 λh5 fl5 up5=>?_;let fl5':Heap.FlyingW B X.stack a (.ref C) a0 h5:=by rw[hstk];exact fl5
  let fy5:DD X.prog X.w (gr X.stack) H1 H' s1.heap B h5:=fly.on (up4.trans up5) fl5.1 (nf fl.2.2.1);let I5:=back h5 fy5;let⟨ob,hob,hobc⟩:=fl5'.there;let⟨tl,Nn,nm,qn,bs,hdct,sn,sub,ab,col,dd,k0,k1,k2,k3,k5,mN,hC,hN',hni,T⟩:=O.obj;refine wpAny_handleBy_cons (codeAny_handlers_test (d6 (X:=X.held (.ref a)) (I5.held _) hgc O.bound ?_ hdc)) (by intro q;cases q);refine wpAny_excMatches_sub_self (I5.bk _ _ hC) hob hobc (T.hasType hbase) (codeAny_handlers_suite ?_);refine lands_againW fl5' λh6 fl6 up6=>?_;let fy6:DD X.prog X.w (gr X.stack) H1 H' s1.heap B h6:=fy5.on up6 fl6.1 (nf fl5'.2.2.1);let I6:=back h6 fy6;refine yV (hsu (.ref a) pins _ U H' D ((I6.held _).kR _) q2) (λfl s7 z=>?_) λ_ _ z=>z.elim;exact SP.gU I.ok.hd (SP.dX z)
end
section
variable {prog:wO} {w:wQ} {A:wR} {E:wM->wN->Prop} {s:wN}
def Im (hd:(d == sysModules)=false) (ho:s.heap.get? d=some o) (hx:o.ExactDict) (hdat:o.data=.dict es ep)
  (hQ:Q (.ref ↑s) {s with heap:=s.heap.push {cls:=.type "dict_keyiterator",data:=.fields #[.ref d,.int 0 0,.int es.size 0,.int ep 0]}}) :
  wpAny (model prog w) A (pyIter (.ref d)) Q E s:=by
 let hT:s.TypeIs (.ref d) "dict":={(o),ho,hx.1}
 refine wpAny_pyIter_slot hT F.slot_dict_iter (yT F.slot_dict_iter hT F.entry_dict_iter ?_ (F.args_dict_iter_1 _));unfold Builtin.«dict.__iter__»;refine yj ?_;unfold Builtin.Dict.dictSlotNone;refine yj (wpAny_notOrdered_dict hT ?_);show wpAny _ _ (pure (Value.ref d)) _ _ s;refine ym ?_;show wpAny _ _ (Builtin.Dict.showsAll d >>= _) _ _ s;unfold Builtin.Dict.showsAll;rw[yE (by rw[hd];exact zI)];refine yj (ym ?_);refine yj (wpAny_dictEntries ho hdat ?_);refine yj (wpAny_dictEpoch ho hdat ?_);refine yj (yU (ym {_,rfl,"dict_keyiterator",_,{_,yn _ rfl,rfl},xF.lookup,?_}))
 simpa[rawInt] using hQ
def Io (hit:s.heap.IsKeyIter it d i es.size ep)
  (hod:s.heap.get? d=some od) (hdd:od.data=.dict es ep) (hx:es[i]?=some e)
  (hQ:∀h',h'.IsKeyIter it d (i+1) es.size ep->Heap.SameBut it s.heap h'->Q (some e.key) {s with heap:=h'}) :
  wpAny (model prog w) A (pyNext (.ref it)) Q E s:=by
 let⟨o,ho,hc,hd⟩:=id hit;unfold pyNext;refine yj (wm (yP (name:=Str.ofString "__next__") hit.typeIs xF
  (yT xF hit.typeIs F.entry_dict_keyiterator_next ?_ (F.args_dict_keyiterator_next_1 _))))
 refine yj (ym ?_);refine yj ?_;refine yj ?_
 first | refine yj (xy hit.typeIs (ym ?_)) | refine yj (xT hit.typeIs (ym ?_))
 refine yj (wpAny_fieldsOf ho hd ?_);let hown:Builtin.Dict_items.ownsTuple "dict_keyiterator"= false:=by decide
 simp only[hown,x6,xS];show wpAny _ _ (if(Value.ref d == Value.none)=true then _ else _) _ _ s;rw[yE (show¬((Value.ref d == Value.none)=true) from zI)];refine yj (ym ?_);refine yj (wpAny_dictEntries hod hdd ?_);rw[yE (by simp)];refine yj (ym ?_);refine yj (wpAny_dictEpoch hod hdd ?_);rw[yE (by simp)];refine ym ?_;simp only[show¬((i:Int)<0) from by ext,xS,xH,hx];refine yj ?_
 first | refine yj (xy hit.typeIs (ym ?_)) | refine yj (xT hit.typeIs (ym ?_))
 refine yj (wpAny_isOneOf_keyiter hit.typeIs ?_);show wpAny _ _ (setField (.ref it) 1 (rawInt ((i:Int)+1)) >>= _) _ _ s;refine yj (wpAny_setField ho hd (by simp) ?_);let hit':(s.heap.update it (Obj.mapFields (·.setIfInBounds 1 (rawInt ((i:Int)+1))))).IsKeyIter it d (i+1) es.size ep:=
  {_,yq _ ho (Obj.isFreed_of_fields (wH hd _)),(Obj.cls_mapFields ..).trans hc,by rw[wH hd];simp[rawInt]}
 refine yj (xo ?_);refine yj (wpAny_isOneOf_keyiter (s:={s with heap:=s.heap.update it (Obj.mapFields (·.setIfInBounds 1 (rawInt ((i:Int)+1))))}) hit'.typeIs ?_);show wpAny _ _ (pure e.key) _ _ _;exact ym (ym {_,rfl,ym (hQ _ hit' (wA ..))})
def Kt (hh:A.handled=none) (hit:s.heap.IsKeyIter it d i es.size ep)
  (hod:s.heap.get? d=some od) (hdd:od.data=.dict es ep) (hx:es.size<=i)
  (hQ:∀h',Heap.ExtBut it s.heap h'->Q none {s with heap:=h'}):wpAny (model prog w) A (pyNext (.ref it)) Q E s:=by
 let⟨o,ho,hc,hd⟩:=id hit;unfold pyNext;refine yj (wm (yP (name:=Str.ofString "__next__") hit.typeIs xF
  (yT xF hit.typeIs F.entry_dict_keyiterator_next ?_ (F.args_dict_keyiterator_next_1 _))))
 refine yj (ym ?_);refine yj ?_;refine yj ?_
 first | refine yj (xy hit.typeIs (ym ?_)) | refine yj (xT hit.typeIs (ym ?_))
 refine yj (wpAny_fieldsOf ho hd ?_);let hown:Builtin.Dict_items.ownsTuple "dict_keyiterator"= false:=by decide
 simp only[hown,x6,xS];show wpAny _ _ (if(Value.ref d == Value.none)=true then _ else _) _ _ s;rw[yE (show¬((Value.ref d == Value.none)=true) from zI)];refine yj (ym ?_);refine yj (wpAny_dictEntries hod hdd ?_);rw[yE (by simp)];refine yj (ym ?_);refine yj (wpAny_dictEpoch hod hdd ?_);rw[yE (by simp)];refine ym ?_;simp only[show¬((i:Int)<0) from by ext,xS,xH,Array.getElem?_eq_none hx];refine yj ?_
 first | refine yj (xy hit.typeIs (ym ?_)) | refine yj (xT hit.typeIs (ym ?_))
 show wpAny _ _ (setField (.ref it) 0 .none >>= _) _ _ s;refine yj (wpAny_setField ho hd (by simp) ?_);show wpAny _ _ (newExc (.type "StopIteration") [] >>= _) _ _ _;refine yj ?_;simp only[newExc,newTuple];refine yj (yU ?_ (by size_fits));refine yj (m:=firstArgMember _ _) (wpAny_of_eq (a:=Value.none) (by first | rfl | (simp only[firstArgMember];rfl)) ?_);refine yU ?_ (by size_fits);simp only[raiseNew];refine yj (wpAny_handled ?_);rw[show A.in1.handled=none from hh];refine yj (ym (wpAny_throw ?_));refine yj (wpAny_isInstance (T:="StopIteration") (b:=true) {_,yn _ rfl,rfl} isSubtype_stop ?_);exact ym (hQ _ (((wA ..).extBut.push _).push _))
end
def JX (H:Hp) (d:wV) (o:Obj) (n:Nat) (kat:Hp->Nat->V->Prop):Prop:=∃u,H d=some (.jF o u)/\((∃kvs:List (Key×V),u=.dK kvs/\n=⇑kvs/\kat=λ_ i x=>∃p,kvs[i]?=some p/\x=kV p.1)\/
 ∃kvs:List (List Key×V),u=.dT kvs/\n=⇑kvs/\kat=λH i x=>∃p b,kvs[i]?=some p/\H b=some (.tup (p.1.map kV))/\x=.ref b)
theorem uL {K:Type} [DecidableEq K] {prog:wO} {w:wQ} {knd:KeyKind prog w K}:∀{es:List DictEntry} {kvs:List (K×wM)} {i:Nat} {e:DictEntry},PySem.Pairs knd es kvs->es[i]?=some e->∃kv,kvs[i]?=some kv/\knd.is kv.1 e.key=true/\e.val=kv.2
 | _,_,_,_,.nil,h=>by simp at h
 | _,_,0,_,.cons a b _,h=>by simp at h;subst h;exact{_,rfl,a,b}
 | _,_,i+1,_,.cons _ _ t,h=>by
  let⟨kv,h1,h2⟩:=uL (i:=i) t (by simpa using h);exact{kv,by simpa using h1,h2}
theorem iY:∀{l:List α} {m:List β} {i:Nat} {b:β},Paired F l m->m[i]?=some b->∃a,l[i]?=some a/\F a b
 | _,_,_,_,.nil,h=>by simp at h
 | _,_,0,_,.cons r _,h=>by simp at h;subst h;exact{_,rfl,r}
 | _,_,i+1,_,.cons _ t,h=>by
  let⟨a,h1,h2⟩:=iY (i:=i) t (by simpa using h);exact{a,by simpa using h1,h2}
section
variable {X:Cx} {pins:List (wV×Obj)} {U:St} {H:Hp} {s:wN} {d:wV} {o:Obj} {n:Nat} {kat:Hp->Nat->V->Prop}
def JX.raw (f:JX H d o n kat) (I:Inv X pins U H s):(d == sysModules)=false/\∃es ep,s.heap.get? d=some o/\o.ExactDict/\o.data=.dict es ep/\es.size=n/\∀i e,es[i]?=some e->∃x,RelV x e.key/\kat H i x:=by
 let⟨u,hH,hu⟩:=f;let⟨ho,ok⟩:=(show aW X.prog X.w H s.heap d (.jF o u) from I.aT d _ hH)
 rcases hu with⟨kvs,rfl,rfl,rfl⟩ | ⟨kvs,rfl,rfl,rfl⟩
 ·let⟨_,hd,vs,rel,o',es,ep,ho',hx,hdat,_,hp,_⟩:=ok
  let hl:es.size=⇑kvs:=by
   let h1:=⇑hp;let h2:⇑kvs=⇑vs:=xG rel;let h3:⇑es.toList=es.size:=yH;ext
  rw[ho] at ho';cases ho';refine{hd,es,ep,ho,hx,hdat,hl,λi e he=>?_};let⟨kv,h1,h2,_⟩:=uL hp (i:=i) (e:=e) (by rw[yY];exact he);let⟨p,h3,h4,_⟩:=iY rel h1;refine{kV p.1,?_,p,h3,rfl};rw[<-h4] at h2;rcases bV h2 with⟨j,t,e1,e2⟩ | ⟨y,t,e1,e2⟩
  ·rw[e1,e2];exact{(t),rfl}
  ·rw[e1,e2];exact{(t),rfl}
 ·let⟨_,hd,xs,rel,o',es,ep,ho',hx,hdat,he,_⟩:=ok
  let h3:⇑es.toList=es.size:=yH;let hl:es.size=⇑kvs:=by
   let h2:⇑kvs=⇑xs:=xG rel;rw[he,za] at h3;ext
  rw[ho] at ho';cases ho';refine{hd,es,ep,ho,hx,hdat,hl,λi e hi=>?_};rw[<-yY,he,zH] at hi;cases q:xs[i]? with
  | none=>rw[q] at hi;cases hi
  | some y=>
   rw[q] at hi;cases hi;let⟨p,h4,h5,h6,_⟩:=iY rel q;exact{.ref y.2.1,rfl,p,y.2.1,h4,h6,rfl}
end
def QE (d:wV) (o:Obj) (n:Nat) (kat:Hp->Nat->V->Prop):It:={λi H=>JX H d o n kat/\i<n,λi H x H'=>H'=H/\kat H i x,λi H=>JX H d o n kat/\n<=i}
def Gg {P:wO} {w:wQ} {K:yr} {tg:Expr} (d it:wV) (n:Nat) (kat:Hp->Nat->V->Prop) (o:Obj) (es:Array DictEntry) (ep:Nat) (hdat:o.data=.dict es ep) (hn:es.size=n) :
  Turn P w K tg (QE d o n kat) [it] it (λi h=>h.IsKeyIter it d i n ep) where
 mem:=by simp
 obj:=λi h st b hb=>by
  let e:b=it:=by simpa using hb
  subst e;let⟨o,e,c,d⟩:=st;exact{o,e,λv z=>by rw[d] at z;cases z}
 keep:=λi h h' st k=>st.at λo e=>k it (by simp) o e
 item:=by
  intro X hP hw hK hc i pins s U H E I hf st hg;subst hP hw hK hn;let⟨fz,hlt⟩:=hg;let⟨hd,es',ep',ho,hx,hdat',hsz,hk⟩:=fz.raw I;rw[hdat] at hdat';cases hdat';let⟨f0,f1,f2,f3,f4,f5⟩:=hf it (by simp);let he:es[i]?=some es[i]:=Array.getElem?_eq_getElem hlt;let⟨x,rx,kx⟩:=hk i _ he;refine Io st ho hdat he λh' st' sb=>?_;let I1:Inv X pins U H {s with heap:=h'}:=I.turned (t':=s.toks) (λb o hb e=>(sb.2 b hb).trans e) f0 f1 f3 f4 f5;let⟨oi,e,c,dd⟩:=id st';exact{_,rfl,va (s:={s with heap:=h'}) e c dd ∅ {x,H,I1,rx,{(rfl),kx},st',λb hb=>(hf b hb).1}}
 done:=by
  intro X hP hw hK hc i pins s U H E I hf st hg;subst hP hw hK hn;let⟨fz,hge⟩:=hg;let⟨hd,es',ep',ho,hx,hdat',hsz,hk⟩:=fz.raw I;rw[hdat] at hdat';cases hdat';let⟨f0,f1,f2,f3,f4,f5⟩:=hf it (by simp);exact Kt (I.ok.hd hc) st ho hdat hge λh' eb=>{rfl,I.turned (t':=s.toks) (λb o hb e=>eb b o hb e) f0 f1 f3 f4 f5}
 self:=λ_ _ _ _ _ st h=>wpAny_pyIter_keyiter st h
def OM (td:TE):TI:=λU H R=>td U H λx H1=>∃d o n kat,x=.ref d/\JX H1 d o n kat/\R (QE d o n kat) H1
section
variable {X:Cx} {tg l:Expr} {tl:TE}
def Kz (hl:PE X l tl):PI X tg l (OM tl):=by
 intro pins s U H R I h;refine bR (hl pins s U H _ I h) λv s1 zz=>?_;let⟨x,H1,I1,r1,q1⟩:=zz;let⟨d,o,n,kat,e,fz,q⟩:=q1;subst e;cases r1;let⟨hd,es,ep,ho,hx,hdat,hsz,hk⟩:=fz.raw I1;refine Im hd ho hx hdat ?_;refine{↑s1,[↑s1],_,_,H1,rfl,I1.kept (t':=s1.toks) λb o e=>yk _ e,Gg d _ n kat o es ep hdat hsz,{_,yn _ rfl,rfl,by rw[hsz];rfl},λb hb=>?_,q};let e:b=↑s1:=by simpa using hb
 subst e;exact I1.tJ (zh _) (I1.aT.fresh (zh _))
end
def Fd (H:Hp) (d:wV) (o:Obj) (kvs:List (Key×V)):Prop:=H d=some (.jF o (.dK kvs))
def JW (d:wV) (o:Obj) (kvs:List (Key×V)):It:={λi H=>Fd H d o kvs/\i<⇑kvs,λi H x H'=>H'=H/\∃p,kvs[i]?=some p/\x=p.2,λi H=>Fd H d o kvs/\⇑kvs<=i}
section
variable {X:Cx} {pins:List (wV×Obj)} {U:St} {H:Hp} {s:wN} {d:wV} {o:Obj} {kvs:List (Key×V)}
def Fd.at' (f:Fd H d o kvs) (I:Inv X pins U H s):(d == sysModules)=false/\∃vs es ep,KV kvs vs/\o.data=.dict es ep/\s.heap.DictAt (bU X.prog X.w) d vs ep:=by
 let⟨ho,ok⟩:=(show aW X.prog X.w H s.heap d (.jF o (.dK kvs)) from I.aT d _ f)
 let⟨_,hd,vs,rel,o',es,ep,ho',hx,hdat,hk,hp,nd⟩:=ok;rw[ho] at ho';cases ho';exact{(hd),vs,es,ep,rel,hdat,o,es,ho,hx,hdat,hk,hp,nd}
end
def By {P:wO} {w:wQ} {K:yr} {tg:Expr} (d it:wV) (o:Obj) (kvs:List (Key×V)) (es:Array DictEntry) (ep:Nat) (hdat:o.data=.dict es ep) :
  Turn P w K tg (JW d o kvs) [it] it (λi h=>h.IsValIter it d i ⇑kvs ep) where
 mem:=by simp
 obj:=λi h st b hb=>by
  let e:b=it:=by simpa using hb
  subst e;let⟨o,e,c,d⟩:=st;exact{o,e,λv z=>by rw[d] at z;cases z}
 keep:=λi h h' st k=>st.at λo e=>k it (by simp) o e
 item:=by
  intro X hP hw hK hc i pins s U H E I hf st hg;subst hP hw hK;let⟨fz,hlt⟩:=hg;let⟨hd,vs,es',ep',rel,hdat',da⟩:=fz.at' I;rw[hdat] at hdat';cases hdat';let⟨f0,f1,f2,f3,f4,f5⟩:=hf it (by simp);let hl:⇑kvs=⇑vs:=xG rel;let hi:vs[i]?=some (vs[i]'()):=zb ();let⟨p,h3,h4,h5⟩:=iY rel hi;refine wpAny_pyNext_values_item (by rw[<-hl];exact st) da hi λh' st' sb=>?_;let I1:Inv X pins U H {s with heap:=h'}:=I.turned (t':=s.toks) (λb o hb e=>(sb.2 b hb).trans e) f0 f1 f3 f4 f5;let⟨oi,e,c,dd⟩:=id st';exact{_,rfl,va (s:={s with heap:=h'}) e c dd ∅ {p.2,H,I1,h5,{(rfl),p,h3,rfl},by rw[hl];exact st',λb hb=>(hf b hb).1}}
 done:=by
  intro X hP hw hK hc i pins s U H E I hf st hg;subst hP hw hK;let⟨fz,hge⟩:=hg;let⟨hd,vs,es',ep',rel,hdat',da⟩:=fz.at' I;rw[hdat] at hdat';cases hdat';let⟨f0,f1,f2,f3,f4,f5⟩:=hf it (by simp);let hl:⇑kvs=⇑vs:=xG rel;exact wpAny_pyNext_values_end (I.ok.hd hc) (by rw[<-hl];exact st) da (by simp;ext) λh' eb=>{rfl,I.turned (t':=s.toks) (λb o hb e=>eb b o hb e) f0 f1 f3 f4 f5}
 self:=λ_ _ _ _ _ st h=>wpAny_pyIter_valiter st h
def K0 (td:TE):TI:=λU H R=>td U H λx H1=>∃d o kvs,x=.ref d/\Fd H1 d o kvs/\R (JW d o kvs) H1
section
variable {X:Cx} {tg l:Expr} {tl:TE} {apos cpos:Pos}
def GD (hl:PE X l tl) (hbase:attributeBase l "values" X.env (eval l X.env)=eval l X.env<|>qe_) (hline:(apos.endLine == cpos.line)=true<|>qe_):PI X tg (.Call (.Attribute l "values" apos) [] [] cpos) (K0 tl):=by
 intro pins s U H R I h;refine wpAny_Call_method0_late hbase hline (bR (hl pins s U H _ I h) λv s1 zz=>?_);let⟨x,H1,I1,r1,q1⟩:=zz;let⟨d,o,kvs,e,fz,q⟩:=q1;subst e;cases r1;let⟨hd,vs,es,ep,rel,hdat,da⟩:=fz.at' I1;refine{"dict","dict.values",F.plainAttrs_dict,F.slot_dict_values,F.type_dict_values,da.dictOf.typeIs,da.dictOf.mapOf.noDict,wg rfl (PySem.evalArgs_none ?_)};refine call_meetsIn F.slot_dict_values da.dictOf.typeIs F.entry_dict_values (F.args_dict_values_1 _) (meets_dict_values (bU X.prog X.w) d hd) {{(vs),da.dictOf},?_};let I2:Inv X pins U H1 {s1 with heap:=s1.heap.push {cls:=.type "dict_values",data:=.fields #[.ref d]}}:=I1.kept (t':=s1.toks) λb o e=>yk _ e;let⟨_,vs2,es2,ep2,rel2,hdat2,da2⟩:=fz.at' I2;rw[hdat] at hdat2;cases hdat2;let hl2:⇑kvs=⇑vs2:=xG rel2;refine wpAny_pyIter_values (knd:=bU X.prog X.w) {_,yn _ rfl,rfl,rfl} da2 ?_;refine{_,[_],_,_,H1,rfl,I2.kept (t':=s1.toks) λb o e=>yk _ e,By d _ o kvs es ep hdat,{_,yn _ rfl,rfl,by rw[hl2];rfl},λb hb=>?_,q};rw[zv.mp hb];exact I2.tJ (zh _) (I2.aT.fresh (zh _))
end
def Ex {d:wV} {o:Obj} {kvs:List (Key×V)} {g:TG} {tb:TS} {D:Ends} {U:St} {H:Hp} (Pv:Nat->St->Hp->Prop) (h0:Pv 0 U H) (hf:∀i U H,i<=⇑kvs->Pv i U H->Fd H d o kvs)
  (hs:∀i p U H,kvs[i]?=some p->Pv i U H->g p.2 U H λU2 H2=>tb {D with nx:=Pv (i+1),ct:=Pv (i+1),bk:=D.nx} U2 H2) (hd:∀U H,Pv ⇑kvs U H->D.nx U H) :
  ∃W:Nat->Nat->St->Hp->Prop,(∃m,W 0 m U H)/\∀i m U H,W i m U H->
   ((JW d o kvs).stop i H/\D.nx U H)\/((JW d o kvs).go i H/\∃Nn:St->Hp->Prop,(∀U' H',Nn U' H'->∃m',m'<m/\W (i+1) m' U' H')/\∀v H',(JW d o kvs).HD i H v H'->g v U H' λU2 H2=>tb {D with nx:=Nn,ct:=Nn,bk:=D.nx} U2 H2):=by
 refine{λi m U H=>m=⇑kvs-i/\i<=⇑kvs/\Pv i U H,{⇑kvs,by simp,zZ _,h0},?_};rintro i m U H ⟨rfl,hi,pv'⟩;rcases xn i ⇑kvs with hlt | hge
 ·refine .inr {{hf i U H hi pv',hlt},Pv (i+1),λU' H' p'=>{⇑kvs-(i+1),(),rfl,hlt,p'},λv H' y=>?_}
  let⟨e1,p,hp,e2⟩:=y;rw[e1,e2];exact hs i p U H hp pv'
 ·let e:i=⇑kvs:=()
  subst e;exact .inl {{hf _ U H hi pv',zh _},hd U H pv'}
def OL:HO->Bool
 | .dK _=>true
 | .dT _=>true
 | _=>false
def bL.Lz {P:wO} {w:wQ} {K:yr} {mg:Str->Option wM} {base:wW} {k:Nat} {f:wV} {fd:wU} {ps:List Str} {sp sp':Sp} (F:bL P w K mg base uq k f fd ps sp) (len:∀vs H Q E,sp' vs H Q E->⇑vs=⇑ps)
  (h:∀vs H Q E,sp' vs H Q E->∃d u,H d=some u/\OL u=true/\∀o,sp vs (upd H d (.jF o u)) (λv H'=>Q v (upd H' d u)) E):bL P w K mg base uq k f fd ps sp':=by
 refine{len,λA outer s H args us vs Q E hr e hb hv hs=>?_};let⟨d,u,hd,hu,hsp⟩:=h vs H Q E hs;let okd:=e.aT d u hd;let⟨o,ho⟩:=okd.here;let nt:∀xs,u≠.tup xs:=λxs z=>by rw[z] at hu;cases hu
 let no:∀x,u≠.own x:=λx z=>by rw[z] at hu;cases hu
 let nf:∀a b,u≠.jF a b:=λa b z=>by rw[z] at hu;cases hu
 let nb:∀a,u≠.HL a:=λa z=>by rw[z] at hu;cases hu
 let off:∀b,H b=none->b≠d:=λb n z=>by rw[z,hd] at n;cases n
 let tup1:∀b xs,H b=some (.tup xs)->upd H d (.jF o u) b=some (.tup xs):=λb xs q=>by rw[ao (λz=>by rw[z,hd] at q;exact nt xs (yb q))];exact q
 let own1:∀b x,H b=some (.own x)->upd H d (.jF o u) b=some (.own x):=λb x q=>by rw[ao (λz=>by rw[z,hd] at q;exact no x (yb q))];exact q
 let e1:DA P w K mg base A outer s (upd H d (.jF o u)):=by
  refine{e.frames,e.mod,λb ob q=>{(e.bs b ob q).1,by rw[ao (off b (e.bs b ob q).2)];exact(e.bs b ob q).2},e.Hr,e.kf,λb hb=>by rw[ao (off b (e.AG b hb))];exact e.AG b hb,λb ub q=>?_,e.bare}
  by_cases hbd:b=d
  ·subst hbd
   rw[aA] at q;cases q;exact{ho,okd.gs (λ_ _ _ z=>z) (λc z=>own1 c _ z) tup1}
  ·rw[ao hbd] at q
   exact(e.aT b ub q).gs (λ_ _ _ z=>z) (λc z=>own1 c _ z) tup1
 refine xA (F.run A outer s _ args us vs _ E hr e1 hb hv (hsp o)) λr s' hq=>?_;cases r with
 | error x=>exact hq
 | ok fl=>
  cases fl with
  | next=>exact hq
  | brk=>exact hq
  | cont=>exact hq
  | ret uv=>
   let⟨v,H',os,bare,un,aT,rv,q⟩:=hq;let hd':H' d=some (.jF o u):=un.iE d o u aA;let off1:∀b,H b=none->upd H d (.jF o u) b=none:=λb n=>by rw[ao (off b n)];exact n
   let back:∀b z,H b=some z->b≠d->upd H d (.jF o u) b=some z:=λb z q n=>by rw[ao n];exact q
   refine{v,upd H' d u,os,bare,{λb ob q n hb hx=>un.keep b ob q (off1 b n) hb hx,λb ob q n hb hx=>un.slot b ob q (off1 b n) hb hx,λb ob q n hx=>by rw[ao (off b n)];exact un.free b ob q (off1 b n) hx,un.there,
    λb xs q=>?_,λb ob uu q=>?_,λb ps' q=>?_},λb ub q=>?_,rv,q}
   ·let n:b≠d:=λz=>by rw[z,hd] at q;exact nt xs (yb q)
    rw[ao n];exact un.jA b xs (back b _ q n)
   ·let n:b≠d:=λz=>by rw[z,hd] at q;exact nf ob uu (yb q)
    rw[ao n];exact un.iE b ob uu (back b _ q n)
   ·let n:b≠d:=λz=>by rw[z,hd] at q;exact nb ps' (yb q)
    let⟨m,z⟩:=un.jB b ps' (back b _ q n);exact{m,by rw[ao n];exact z}
   ·let own2:∀c x,H' c=some (.own x)->upd H' d u c=some (.own x):=λc x z=>by rw[ao (λy=>by rw[y,hd'] at z;cases z)];exact z
    let tup2:∀c xs,H' c=some (.tup xs)->upd H' d u c=some (.tup xs):=λc xs z=>by rw[ao (λy=>by rw[y,hd'] at z;cases z)];exact z
    by_cases hbd:b=d
    ·subst hbd
     rw[aA] at q;cases q;let⟨_,ok'⟩:=(show aW P w H' s'.heap b (.jF o u) from aT b _ hd')
     exact ok'.gs (λ_ _ _ z=>z) (λc z=>own2 c _ z) tup2
    ·rw[ao hbd] at q
     exact(aT b ub q).gs (λ_ _ _ z=>z) (λc z=>own2 c _ z) tup2
def B5 (U:List Str) (x:Str):List Str:=if x∈U then U else U++[x]
def eO (l:List Str):List Str:=l.foldl B5 []
def CV (l:List Str):⇑(eO l)<=⇑l/\(⇑(eO l)=⇑l↔l.Nodup):=by
 let key:∀(l U:List Str),U.Nodup->⇑(l.foldl B5 U)<=U.length+⇑l/\(⇑(l.foldl B5 U)=U.length+⇑l↔(U++l).Nodup):=by
  intro l
  induction l with
  | nil=>intro U h;simp[h]
  | cons x l ih=>
   intro U h;rw[List.foldl_cons,zo]
   by_cases hx:x∈U
   ·rw[show B5 U x=U from yF hx]
    have:=ih U h;refine{(),{λe=>(),λe=>?_}};exact absurd hx (λz=>(zP.mp e).2.2 x z x zk rfl)
   ·rw[show B5 U x=U++[x] from yE hx]
    let hn:(U++[x]).Nodup:=zP.mpr {h,by simp,λa ha b hb e=>by rw[zv.mp hb] at e;exact hx (e▸ha)};have:=ih (U++[x]) hn;rw[ze,List.length_singleton,zC,List.singleton_append] at this;exact{(),{λe=>this.2.mp (),λe=>by have:=this.2.mpr e;ext}}
 have:=key l [] xJ
 simpa[eO] using this
def sub_tuple_set:isSubtype (.type "tuple") (.type "set")=pure false:=by rw[isSubtype_type];kernel_rfl
def sub_tuple_frozenset:isSubtype (.type "tuple") (.type "frozenset")=pure false:=by rw[isSubtype_type];kernel_rfl
section
variable {prog:wO} {w:wQ}
def HX {A:wR} {R:Result->wN->Prop} {I:wV} {fp wr:List wV} {G:Array GenState->Array GenState->Prop} {n:Nat} {P:Nat->wM->Prop} {St:Nat->wN->Prop} (W:WalksS prog w A.in1 I fp wr G n P St) (S:wV) (hSf:S∉fp)
  (zs:List Str) (hn:n=⇑zs) (hval:∀i v,P i v->∃z t,zs[i]?=some z/\v=.str z t) (hb:n+1<scanBound) :
  ∀(k i:Nat) (s:wN),n-i=k->i<=n->St i s->s.heap.SetOf (PySem.strKind prog w) S (λx=>decide (x∈eO (zs.take i))) ⇑(eO (zs.take i))->
   (∀s',Moved (S::wr) G s s'->s'.heap.SetOf (PySem.strKind prog w) S (λx=>decide (x∈eO zs)) ⇑(eO zs)->R (.ok (.ret .none)) s')->
   codeAny (model prog w) A (.builtin "set.update.loop" {[.ref S,.ref I],[]}) R s:=by
 let hSw:S∉wr:=λh=>hSf (W.sub _ h);let hsub:∀b∈wr,b∈S::wr:=λb hb=>zj _ hb;intro k
 induction k with
 | zero=>
  intro i s hk hi hst hS hR;let hin:i=n:=()
  subst hin;rw[hn,zK] at hS;refine xD F.entry_set_update_loop ?_;rw[Around.under_plainId F.plain_set_update_loop _];show wpAny _ A.in1 (pyNext (.ref I) >>= _) _ _ s;refine yj (W.done s _ _ hst λs' hm=>?_);let⟨o,es,ep,t,ho,rest⟩:=hS;exact ym (hR s' (hm.mono hsub) {o,es,ep,t,hm.heap S _ hSw ho,rest})
 | succ k ih=>
  intro i s hk hi hst hS hR;let hlt:i<n:=()
  refine xD F.entry_set_update_loop ?_;rw[Around.under_plainId F.plain_set_update_loop _];show wpAny _ A.in1 (pyNext (.ref I) >>= _) _ _ s;refine yj (W.item i s _ _ hlt hst λv s' hP hst' hm=>?_);let⟨z,t,hz,rfl⟩:=hval i v hP;let⟨o,es,ep,tb,ho,rest⟩:=hS;let hS':s'.heap.SetOf (PySem.strKind prog w) S (λx=>decide (x∈eO (zs.take i))) ⇑(eO (zs.take i)):={o,es,ep,tb,hm.heap S _ hSw ho,rest}
  show wpAny _ A.in1 (holding [Value.str z t] (setAdd S (.str z t)) >>= _) _ _ s';refine yj (xo ?_);unfold setAdd;refine xo ?_;refine yj ((PySem.strKind prog w).pyHash (k:=z) (strKind_is _ _ _ _) ?_);let hl:=(CV (zs.take i)).1;rw[zN] at hl;refine wpAny_setAddHashed_of (knd:=PySem.strKind prog w) (s:={s' with toks:=s'.toks+1}) (strKind_is _ _ _ _) rfl hS' () λh' hsb hS2=>?_;let et:zs.take (i+1)=zs.take i++[z]:=by rw[List.take_succ,hz];rfl
  let ed:eO (zs.take (i+1))=B5 (eO (zs.take i)) z:=by rw[et];unfold eO;rw[zS];rfl
  let hSi:h'.SetOf (PySem.strKind prog w) S (λx=>decide (x∈eO (zs.take (i+1)))) ⇑(eO (zs.take (i+1))):=by
   refine SetOf_congr hS2 (λx=>?_) ?_
   ·rw[ed]
    unfold B5
    by_cases hx:z∈eO (zs.take i)
    ·rw[yF hx]
     by_cases e:x=z
     ·subst e;simp[hx]
     ·simp[e]
    ·rw[yE hx];simp[zD]
   ·rw[ed]
    unfold B5
    by_cases hx:z∈eO (zs.take i) <;> simp[hx]
  refine ym {plainId_quiet F.plain_set_update_loop _,ih (i+1) _ () hlt (W.frame _ s' _ _ hst' (xI _) λb hb o e=>?_) hSi λs'' hm'' hS''=>?_}
  ·rw[hsb.2 b (λh:b=S=>hSf (by rw[<-h];exact hb))];exact e
  ·refine hR s'' (Moved.trans W.gtrans ((hm.mono hsub).then_heap (xI _) λb o hb e=>?_) hm'') hS''
   rw[hsb.2 b (λh:b=S=>hb (by rw[h];exact zk))];exact e
variable {A:wR} {E:wM->wN->Prop} {s:wN}
def DV {l:wV} {items:Array wM} {zs:List Str} {Q:wM->wN->Prop} (hh:A.handled=none) (hl:IsTup s.heap l items) (hi:∀(i:Nat) (v:wM),items[i]?=some v->∃z t,zs[i]?=some z/\v=.str z t) (hn:items.size=⇑zs) (hb:items.size+1<scanBound)
  (h:∀(h':wW) (tk:Nat),h'.SetOf (PySem.strKind prog w) ↑s (λx=>decide (x∈eO zs)) ⇑(eO zs)->(∀b o,b<↑s->s.heap.get? b=some o->h'.get? b=some o)->Q (.ref ↑s) {s with heap:=h',toks:=tk}) :
  wpAny (model prog w) A (call (.type "set") [.ref l]) Q E s:=by
 let⟨c,tl,hmro⟩:=F.called_set.mro;let hmade:=F.called_set.made;let hsub:=F.called_set.sub;refine wpAny_call (codeAny_of_tree ?_);show wpAny _ _ (callAny (.type "set") _) _ _ _;refine ym {Code.quiet_builtin _ (by decide +kernel),xD F.entry_type_call ?_};rw[Around.under_plain (weight_type_call_type "set" [.ref l] []) rfl];let h1:=F.called_set.notType;let h2:=F.called_set.canCreate;let hct:=F.typeCall_set_1 (.ref l)
 repeat (any_goals (first | assumption | wp_step))
 letI fresh:Bool->Obj:=λled=>{cls:=.type "set",dict:=none,data:=.set #[] 0 (.fresh 0 0 led)}
 refine xA (code_set_new_1 (.ref l) (E:=E) (Q₁:=λobj s₁=>∃led:Bool,obj=.ref ↑s/\s₁={s with heap:=s.heap.push (fresh led)}) λled=>{(led),rfl,rfl}) λr s₁ hr=>?_;cases r with
 | error e=>exact hr
 | ok fl=>
  cases fl with
  | next=>exact hr.elim
  | brk=>exact hr.elim
  | cont=>exact hr.elim
  | ret obj=>
   let⟨led,rfl,rfl⟩:=hr;let hS:(s.heap.push (fresh led)).get? ↑s=some (fresh led):=yn _ rfl;let hT:Shared.TypeIs {s with heap:=s.heap.push (fresh led)} (.ref ↑s) "set":={_,hS,rfl}
   let hli:=F.called_set.init.lookup;let hbi:=F.called_set.init.bind (.ref ↑s)
   repeat (any_goals (first | assumption | wp_step))
   refine xA (codeAny_call_builtin (R:=wants (λr s₂=>r=.none/\∃h' tk,s₂={s with heap:=h',toks:=tk}/\h'.SetOf (PySem.strKind prog w) ↑s (λx=>decide (x∈eO zs)) ⇑(eO zs)/\
     (∀b o,b<↑s->s.heap.get? b=some o->h'.get? b=some o)) E) F.called_set.init.plain F.entry_set_init (check_set_init_1 hT ?_)) λr₂ s₂ hr₂=>?_
   ·let⟨⟨ocls,odict,odata,oslots⟩,hol,hcl,nl,hdl⟩:=hl
    simp only at hcl hdl;subst hcl hdl;let hol':(s.heap.push (fresh led)).get? l=some {cls:=.type "tuple",dict:=odict,data:=.seq items nl,slots:=oslots}:=yk _ hol;let hsls:=sub_tuple_set;let hslf:=sub_tuple_frozenset;let hne:(Value.type "tuple"== Value.type "dict")=false:=by decide
    let hl1:(s.heap.push (fresh led)).IsTuple l items:={_,hol',rfl,nl,rfl}
    unfold Builtin.«set.__init__» noKeywords Builtin.Frozenset.updateFrom;generalize hPI:pyIter=PI;wp_walk;subst hPI;refine wpAny_pyIter_tuple hl1 ?_;refine yj (wpAny_runValue ?_);let hlS:l<↑s:=yo hol;let hh3:A.in1.in1.in1.handled=none:=by simp[hh]
    let hz:(s.heap.push (fresh led)).objs.size=↑s+1:=yZ ..;let hSf:↑s∉[(s.heap.push (fresh led)).objs.size,l]:=by
     rw[hz];simp only[zA,zB,yL,not_or];exact{ya (xw _),z9 hlS}
    refine HX ((Walks.tuple hh3 _ l (by rw[hz];exact ya (wc hlS)) items).toS) ↑s hSf zs hn hi hb (items.size-0) 0 _ () (zZ _)
     {{_,yn _ rfl,rfl,rfl},(hl1.push _)} ?hS0 ?hR
    case hS0=>
     exact SetOf_congr ((setObjOf_fresh (knd:=PySem.strKind prog w) led).setOf (yk _ hS) (by unfold scanBound;ext)) (λ_=>rfl) rfl
    case hR=>
     intro s' hm hS';let⟨h',g',d',tk',os'⟩:=s';let eg:g'=s.gens:=hm.gens;let ed:d'=s.drawn:=hm.drawn;let eo:os'=s.os:=hm.os;subst eg ed eo;refine ym (ym {rfl,h',tk',rfl,hS',λb o hb e=>?_});refine hm.heap b o ?_ (yk _ (yk _ e));simp only[zA,zB,yL,not_or];exact{ya hb,by rw[hz];exact ya (wc hb)}
   ·cases r₂ with
    | error e=>exact hr₂
    | ok fl₂=>
     cases fl₂ with
     | next=>exact hr₂.elim
     | brk=>exact hr₂.elim
     | cont=>exact hr₂.elim
     | ret r=>
      let⟨rfl,h',tk,rfl,hS',hk'⟩:=hr₂
      repeat (any_goals (first | assumption | wp_step))
      exact h _ _ hS' hk'
end
def Dy (a:wV) (n:Nat):HO:=.ext λh=>∃o es ep t,h.get? a=some o/\o.ExactSet/\o.data=.set es ep t/\t.fits es.size=true/\es.size=n
section
variable {X:Cx}
def G8 (hc:X.calm=true):cZ X (.type "set") (λxs H Q=>∃(a:wV) (zs:List Str),xs=[.ref a]/\cx X.K H a (zs.map V.str)/\⇑zs<=1000/\∀p,H p=none->Q (.ref p) (upd H p (Dy p ⇑(eO zs)))):=by
 intro pins s U H xs us Q I r h;let⟨a,zs,rfl,hq,hz,q⟩:=h;let⟨u,rfl,rx⟩:=vals1 r;cases rx;let⟨its,rv,p,_⟩:=I.tuple hq;let hl:⇑zs=⇑its:=by have:=⇑rv;rw[za] at this;exact this
 refine DV (zs:=zs) (I.ok.hd hc) p (λi v hv=>?_) (by rw[zU,hl]) (by rw[zU];unfold scanBound;ext) λh' tk hS hk=>?_
 ·let hv':its[i]?=some v:=by simpa using hv
  let hi:i<⇑its:=(zt.mp hv').1;let⟨z,t,e1,e2⟩:=HS rv hi;have:=(zt.mp hv').2;exact{z,t,e1,by rw[<-this,e2]}
 ·let⟨o,es,ep,t,ho,hex,hd,hel,hmem,hb,hf,hn⟩:=hS
  refine{.ref _,_,I.laid (t':=tk) (a:=↑s) (o:=Dy ↑s ⇑(eO zs)) (λb ob e=>hk b ob (yo e) e) (zh _) ?_,rfl,q _ (I.aT.fresh (zh _))};exact{{(o),es,ep,t,ho,hex,hd,hf,hn},{(o),ho},λh1 h2 ⟨o,es,ep,t,e1,r⟩ kk=>{o,es,ep,t,kk o e1,r}}
def Ha:cZ X (.builtin "len") (λxs H Q=>∃(p:wV) (n:Nat),xs=[.ref p]/\H p=some (Dy p n)/\n<=1000/\Q (.int n) H):=by
 intro pins s U H xs us Q I r h;let⟨p,n,rfl,hp,hn,q⟩:=h;let⟨u,rfl,rx⟩:=vals1 r;cases rx;let⟨⟨o,es,ep,t,ho,hex,hd,hf,rfl⟩,_⟩:=(show aW X.prog X.w H s.heap p (Dy p n) from I.aT p _ hp)
 exact call_len_set ho hex hd hf () {.int _,H,I.tok _,{_,rfl},q}
end
def LJ:V->Bool
 | .aU=>true
 | .int _=>true
 | .str _=>true
 | _=>false
def B8 (h:LJ x=true):kh x=true:=by cases x <;> first | rfl | cases h
def MH {x y:V} (a:LJ x=true) (b:LJ y=true):GX x y=decide (x=y):=by
 cases x <;> first | cases a;done | skip
 all_goals (cases y <;> first | rfl | exact AN.symm | exact AL.symm | cases b)
def QB (K:yr) (H:Hp) (a b:wV) (xs ys:List V):Prop:=(aD K H a xs/\aD K H b ys)\/(cx K H a xs/\cx K H b ys)
def Qr (xs ys:List V):Prop:=xs=[]\/ys=[]\/(xs.all LJ=true/\ys.all LJ=true)
inductive Ol (K:yr) (x y:V) (H:Hp) (Q:VK):Prop
 | mk (a b:wV) (xs ys:List V) (_:x=.ref a) (_:y=.ref b) (_:QB K H a b xs ys) (_:Qr xs ys) (_:Q (.bl (decide (xs=ys))) H)
inductive Oj (K:yr) (x y:V) (H:Hp) (Q:VK):Prop
 | mk (a b:wV) (xs ys:List V) (_:x=.ref a) (_:y=.ref b) (_:QB K H a b xs ys) (_:Qr xs ys) (_:Q (.bl (!decide (xs=ys))) H)
def Fi (r:Vals xs its) (h:j<⇑its):∃x,xs[j]?=some x/\RelV x its[j]:=by
 let hl:=⇑r;let⟨u,hu,ru⟩:=r.get (i:=j) (x:=xs[j]'()) (zb ());rw[zb h] at hu;cases hu;exact{_,zb (),ru}
section
variable {X:Cx}
def AH (r:Vals xs its) (r':Vals ys jts) (p:Qr xs ys):∀j (h1:j<its.toArray.size) (h2:j<jts.toArray.size),SeqAt.EqAt A s its.toArray[j] jts.toArray[j] (decide (xs[j]?=ys[j]?)):=by
 intro j h1 h2;let h1':j<⇑its:=by simpa using h1
 let h2':j<⇑jts:=by simpa using h2
 let⟨x,ex,rx⟩:=Fi r h1';let⟨y,ey,ry⟩:=Fi r' h2';let l1:=⇑r;let l2:=⇑r';let hp:LJ x=true/\LJ y=true:=by
  rcases p with e | e | ⟨q1,q2⟩
  ·rw[e] at ex;simp at ex
  ·rw[e] at ey;simp at ey
  ·exact{yf.mp q1 x (zy ex),yf.mp q2 y (zy ey)}
 let g1:its.toArray[j]=its[j]:=by simp
 let g2:jts.toArray[j]=jts[j]:=by simp
 let z:=JB (A:=A) (s:=s) rx ry (B8 hp.1) (B8 hp.2);rw[MH hp.1 hp.2] at z;let e:decide (xs[j]?=ys[j]?)=decide (x=y):=by rw[ex,ey,xr];simp
 rw[g1,g2,e];exact z
def all_eq {xs ys:List V} (h:⇑xs=⇑ys):((List.range ⇑xs).all λj=>decide (xs[j]?=ys[j]?))=decide (xs=ys):=by
 rw[xr,yf,decide_eq_true_eq];constructor
 ·intro hh
  refine List.ext_getElem? λj=>?_;rcases xn j ⇑xs with hj | hj
  ·exact zX (hh j (yI.mpr hj))
  ·rw[wj hj,wj ()]
 ·intro hh j _
  rw[hh];exact zd rfl
def Au {xs ys:List V} (h:⇑xs≠⇑ys):decide (xs=ys)=false:=zc λe=>h (by rw[e])
def IM (hu:X.A.units+64<cLine):ng X (compareOp .Eq) (Ol X.K):=by
 intro pins s U H x y v u Q I rx ry h;let⟨a,b,xs,ys,rfl,rfl,hs,pl,q⟩:=h;cases rx;cases ry;rcases hs with⟨ha,hb⟩ | ⟨ha,hb⟩
 ·let⟨its,r,p,_⟩:=I.list ha
  let⟨jts,r',p',_⟩:=I.list hb;let l1:=⇑r;let l2:=⇑r'
  by_cases hl:⇑xs=⇑ys
  ·let z:=SeqAt.RcAt.lists (A:=X.A) (s:=s) p.isList p'.isList (by rw[zU,zU];ext) () (AH r r' pl)
   rw[zU,<-l1,all_eq hl] at z;exact z _ _ _ _ {.bl _,H,I,rfl,q}
  ·let z:=SeqAt.RcAt.lists_lengths (A:=X.A) (s:=s) p.isList p'.isList (by rw[zU,zU];simp;ext) ()
   rw[Au hl] at q;exact z _ _ _ _ {.bl false,H,I,rfl,q}
 ·let⟨its,r,p,_⟩:=I.tuple ha
  let⟨jts,r',p',_⟩:=I.tuple hb;let l1:=⇑r;let l2:=⇑r';let z:=SeqAt.RcAt.tuples (A:=X.A) (s:=s) p p' () (AH r r' pl);rw[zU,zU,<-l1,<-l2] at z
  by_cases hl:⇑xs=⇑ys
  ·let em:min ⇑xs ⇑ys=⇑xs:=()
   rw[em,all_eq hl,hl,xO,Bool.and_true] at z;exact z _ _ _ _ {.bl _,H,I,rfl,q}
  ·rw[show(⇑xs == ⇑ys)=false by simpa using hl,wa] at z
   rw[Au hl] at q;exact z _ _ _ _ {.bl false,H,I,rfl,q}
def Eh (hu:X.A.units+64<cLine):ng X (compareOp .NotEq) (Oj X.K):=by
 intro pins s U H x y v u Q I rx ry h;let⟨a,b,xs,ys,rfl,rfl,hs,pl,q⟩:=h;cases rx;cases ry;rcases hs with⟨ha,hb⟩ | ⟨ha,hb⟩
 ·let⟨its,r,p,_⟩:=I.list ha
  let⟨jts,r',p',_⟩:=I.list hb;let l1:=⇑r;let l2:=⇑r'
  by_cases hl:⇑xs=⇑ys
  ·let z:=SeqAt.RcNeAt.lists (A:=X.A) (s:=s) p.isList p'.isList (by rw[zU,zU];ext) () (AH r r' pl)
   rw[zU,<-l1,all_eq hl] at z;exact z _ _ _ _ {.bl _,H,I,rfl,q}
  ·let z:=SeqAt.RcNeAt.lists_lengths (A:=X.A) (s:=s) p.isList p'.isList (by rw[zU,zU];simp;ext) ()
   rw[Au hl] at q;exact z _ _ _ _ {.bl true,H,I,rfl,q}
 ·let⟨its,r,p,_⟩:=I.tuple ha
  let⟨jts,r',p',_⟩:=I.tuple hb;let l1:=⇑r;let l2:=⇑r';let z:=SeqAt.RcNeAt.tuples (A:=X.A) (s:=s) p p' () (AH r r' pl);rw[zU,zU,<-l1,<-l2] at z
  by_cases hl:⇑xs=⇑ys
  ·let em:min ⇑xs ⇑ys=⇑xs:=()
   rw[em,all_eq hl,hl,xO,Bool.and_true] at z;exact z _ _ _ _ {.bl _,H,I,rfl,q}
  ·rw[show(⇑xs == ⇑ys)=false by simpa using hl,wa] at z
   rw[Au hl] at q;exact z _ _ _ _ {.bl true,H,I,rfl,q}
def LD (K:yr):V->Option Int->Option Int->Hp->VK->Prop:=λx lo hi H Q=>∃a xs,x=.ref a/\cx K H a xs/\(HT.c0 ⇑xs 0 lo=0/\HT.c0 ⇑xs ⇑xs hi=⇑xs)/\Q (.ref a) H
def Kk:JS X (LD X.K):=by
 intro pins s U H x v vl vu lo hi sl Q I rx hs pl pu h;let⟨a,xs,rfl,hx,hw,q⟩:=h;cases rx;let⟨its,r,ht,hz⟩:=I.tuple hx;let hlen:its.toArray.size=⇑xs:=by rw[zU];exact r.length.symm
 refine{"tuple",_,xu.lookup,ht.typeIs,?_};rw[<-hlen] at hw;let⟨os,hos,hcs,hds⟩:=id hs;let hTs:s.TypeIs (.ref sl) "slice":={(os),hos,hcs}
 unfold getItem
 try with_reducible refine xo ?_
 first | refine yj (ym ?_) | skip
 refine yj (wpAny_sequenceKey ht.typeIs ∅ ?_);refine yj (yP (name:=Str.ofString "__getitem__") ht.typeIs xu
  (yT xu ht.typeIs entry_tuple_getitem ?_ (args_tuple_getitem _ _)))
 show wpAny _ _ (Builtin.Tuple.tupleItemsOf (.ref a) >>= _) _ _ s;refine yj (tupleItemsOf_ ht ?_);refine yj (wC hTs ?_);rw[yF ∅];refine yj (HT.ik hs pl pu ?_);show wpAny _ _ (if(((HT.c0 its.toArray.size 0 lo:Nat):Int) == 0&&(1:Int) == 1&&(HT.c0 its.toArray.size its.toArray.size hi-HT.c0 its.toArray.size 0 lo) == its.toArray.size)=true then _ else _) _ _ s;rw[yF (by rw[hw.1,hw.2];simp)];unfold Builtin.Tuple.tupleIsExact;refine yj ?_
 repeat (any_goals (first | assumption | exact⟨_,rfl,ym ⟨.ref a,H,I,rfl,q⟩⟩ | refine yj (wC ht.typeIs ?_) | wp_step))
def LF (K:yr):V->Option Int->Option Int->Hp->VK->Prop:=λx lo hi H Q=>Oh K x lo hi H Q\/LD K x lo hi H Q
def Kl:JS X (LF X.K):=JS.or Mt Kk
def B4 (K:yr):V->List V->Hp->VK->Prop:=λx vs H Q=>∃l b xs zs,x=.ref l/\vs=[.ref b]/\H l=some (.lst xs)/\H b=some (.tup zs)/\⇑xs+⇑zs<=sizeLine/\Q .aU (upd H l (.lst (xs++zs)))
def Ir (K:yr):V->List V->Hp->VK->Prop:=λx vs H Q=>Fw x vs H Q\/B4 K x vs H Q
def El:NC X "list.extend" (B4 X.K):=by
 intro pins s U H x vs v us Q I rx rv h;let⟨l,b,xs,zs,rfl,rfl,hH,hB,hz,q⟩:=h;cases rx;let⟨u,rfl,ru⟩:=rv.one;cases ru;let⟨z,its,n,r,hl,e⟩:=I.KP hH;let⟨_,its2,r2,⟨oc,od,oda,osl⟩,ho,hoc,n2,hod⟩:=(show aW X.prog X.w H s.heap b (.tup zs) from I.aT b _ hB)
 let l1:=⇑r;let l2:=⇑r2;let hsz:its.toArray.size+its2.toArray.size<=sizeLine:=by rw[zU,zU];ext
 let hlong:¬(!its.toArray.isEmpty&&Builtin.List.listTooLong (its.toArray.size+its2.toArray.size))=true:=by
  rw[Cr hsz,wa];exact zI
 dsimp only at hoc hod;subst hoc hod;refine yT F.slot_list_extend {_,e,rfl} F.entry_list_extend ?_ (F.args_list_extend_2 _ _);show wpAny _ _ (Builtin.List.listExtendWith (.ref l) (.ref b) .none) _ _ s;unfold Builtin.List.listExtendWith;refine yj (wC (T:="tuple") {_,ho,rfl} ?_);let ht:(Value.type "tuple"== Value.type "tuple")=true:=by rfl
 rw[yF (by rw[ht];simp)];refine yj (listItems_at ho rfl ?_);refine yj (listItems_at e rfl ?_);rw[yE hlong];refine yj (listUpdate_at e rfl ?_ (by rw[zU];ext) (by show(its.toArray++its2.toArray).size<=sizeLine+1;rw[Array.size_append];ext));refine ym {_,rfl,?_};refine{.aU,_,I.MW (its':=its++its2) hH e (by simp) (r.append r2) ?_,rfl,q};rw[ze];ext
def Em:NC X "list.extend" (Ir X.K):=by
 intro pins s U H x vs v us Q I rx rv h;rcases h with h | h
 ·exact GL pins s U H x vs v us Q I rx rv h
 ·exact El pins s U H x vs v us Q I rx rv h
def EV:cZ X (.builtin "len") (λxs H Q=>∃p kvs,xs=[.ref p]/\H p=some (.dK kvs)/\Q (.int (⇑kvs:Nat)) H):=by
 intro pins s U H xs us Q I r h;let⟨p,kvs,rfl,hp,q⟩:=h;let⟨u,rfl,rx⟩:=vals1 r;cases rx;exact OX I (.inl hp) λt s' I'=>{.int _,H,I',{_,rfl},q}
end
abbrev P7 (K:yr):List V->Hp->VK->Prop:=λxs H Q=>∃p ys,xs=[.ref p]/\(aD K H p ys\/cx K H p ys)/\Q (.int ⇑ys) H
abbrev Om:List V->Hp->VK->Prop:=λxs H Q=>∃i,xs=[.int i]/\i.natAbs.log2<1920/\Q (.str (toString i)) H
def Gy (lo:Int) (n:Nat):List Int:=(List.range n).map λi=>lo+(i:Nat)
def Ml (ta:TA):TE:=λU H Q=>ta U H λvs H1=>∃i j:Int,vs=[.int i,.int j]/\(-(2^62)<=i/\i<2^62/\-(2^62)<=j/\j<2^62)/\(j-i).toNat<=1000000/\∀l,H1 l=none->Q (.ref l) (upd H1 l (.lst ((Gy i (j-i).toNat).map V.int)))
theorem Fh:∀{xs:List V} {us:List wM},⇑xs=⇑us->(∀(i:Nat) (x:V) (u:wM),xs[i]?=some x->us[i]?=some u->RelV x u)->Vals xs us
 | [],[],_,_=>.nil
 | x::xs,u::us,h,k=>.cons (k 0 x u rfl rfl) (Fh (by simpa using h) λi y v e e'=>k (i+1) y v (by simpa using e) (by simpa using e'))
 | [],_::_,h,_=>by simp at h
 | _::_,[],h,_=>by simp at h
section
variable {X:Cx}
def IF (hc:X.calm=true) (hg0:Gl X "list") (hm0:X.mg "list"= none) (hg:Gl X "range") (hm:X.mg "range"= none) (ha:PA X [a,b] ta)
  (hs:starEach [a,b] X.env=[(false,eval a X.env),(false,eval b X.env)]<|>qe_) (hs2:starEach [b] X.env=[(false,eval b X.env)]<|>qe_)
  (hs1:starEach [.Call (.Name "range" p2) [a,b] [] pos2] X.env=[(false,eval (.Call (.Name "range" p2) [a,b] [] pos2) X.env)]<|>qe_) :
  PE X (.Call (.Name "list" p1) [.Call (.Name "range" p2) [a,b] [] pos2] [] pos1) (Ml ta):=by
 intro pins s U H Q I h;refine y8 (j7 I hg0 hm0 (by decide +kernel:bootBuiltins "list"= some (.type "list")) ?_ ∅ ∅);refine yD (Q:=_) ?_ hs1 rfl;rw[hs1];refine xZ ?_;refine Call_ (j7 I hg hm boot_range (yD (bR (ha pos2 pins s U H _ I h) λus s1 ⟨vs,H1,I1,r1,q1⟩=>?_) (by rw[hs,hs2]) (by rw[hs2];rfl)));let⟨i,j,e,⟨q1,q2,q3,q4⟩,hz,q⟩:=q1;subst e;cases r1 with
 | cons r rr=>
  cases rr with
  | cons r' rr=>
   cases rr;let⟨t,rfl⟩:=r;let⟨t',rfl⟩:=r';refine call_range_2 ?_;refine wK ?_;let I2:Inv X pins U H1 {s1 with heap:=s1.heap.push {cls:=.type "range",data:=.fields #[.int i t,.int j t',.int 1 s1.toks]},toks:=s1.toks+1}:=I1.kept λb o e=>yk _ e;let hn:Builtin.Range.rangeSize i j 1=(((j-i).toNat:Nat):Int):=by rw[rangeSize_one];split <;> ext
   refine call_list_range (I2.ok.hd hc) (IsRange.new ..) (small_one q1 q2 q3 q4) hn (zJ hz ∅) λh' tk acc c hk hS hit=>?_;let rv:Vals ((Gy i (j-i).toNat).map V.int) acc.toList:=by
    refine Fh ?_ ?_
    ·let e1:⇑acc.toList=(j-i).toNat:=by rw[yH];exact hit.1
     rw[za,e1];unfold Gy;simp
    ·intro k x u hx hu
     rw[yY] at hu;let⟨tk',rfl⟩:=hit.2 k u hu;let hk':k<(j-i).toNat:=by
      have:=(Array.getElem?_eq_some_iff.mp hu).1;rw[hit.1] at this;exact this
     unfold Gy at hx;rw[zw,zH,List.getElem?_range hk'] at hx;cases hx;exact{tk',by simp}
   let hl:H1 (s1.heap.push {cls:=.type "range",data:=.fields #[.int i t,.int j t',.int 1 s1.toks]}).objs.size=none:=I2.aT.fresh (zh _);refine{.ref _,_,I2.laid (t':=tk) hk (zh _) (show aW X.prog X.w _ h' _ (.lst ((Gy i (j-i).toNat).map V.int)) from{?_,acc.toList,c,rv,?_}),rfl,q _ hl}
   ·rw[za]
    let sl:=yt;unfold Gy;simp;ext
   ·simpa using hS
end
section
variable {prog:wO} {w:wQ} {A:wR} {E:wM->wN->Prop} {s:wN}
end
section
variable {X:Cx} {pins:List (wV×Obj)} {U:St}
end
end L2
namespace Sc
open PySem L2 Lm
noncomputable def mixed (c k:Int):Int:=(c%2305843009213693951+1)*(k*k+48271)*40692%2147483399
def bp (h0:0<=i) (h1:i<2^n):Sz n i:=by
 unfold Sz;let e:((2^n:Nat):Int)=(2:Int)^n:=by simp
 rw[<-e] at h1;ext
def Nf (h1:48<=c) (h2:c<=57):c∈("0123456789": Str).cps.toList:=by
 have:c=48\/c=49\/c=50\/c=51\/c=52\/c=53\/c=54\/c=55\/c=56\/c=57:=()
 rcases this with rfl | rfl | rfl | rfl | rfl | rfl | rfl | rfl | rfl | rfl <;> decide
noncomputable def cR (x:Int×Int):Str:=if x.2=1 then dec x.1 else dec x.1 ++"/" ++ dec x.2
abbrev Item:=Option (Int×Int)×(Int×Int)
noncomputable def kX:Item->Str
 | (none,x)=> "r:" ++ cR x
 | (some q,x)=>dec q.1 ++":" ++ dec q.2 ++":" ++ cR x
def ow (x:Int×Int):Prop:=Rd x/\0<x.1/\x.1<10000/\x.2<10000
def Ny (q:Int×Int):Prop:=-100<q.1/\q.1<100/\-100<q.2/\q.2<100/\(q.2-7*q.1)%12=0
def pJ (it:Item):Prop:=ow it.2/\∀q,it.1=some q->Ny q
def d8 (h1:c≠45) (h2:¬(48<=c/\c<=57)):c∉(dec n).cps.toList:=by
 intro z
 by_cases h0:0<=n
 ·let⟨m,rfl⟩:=yC h0
  exact h2 (iF z)
 ·obtain⟨m,em⟩:∃m:Nat,-n=(m:Int):={(-n).toNat,()}
  rw[pQ (),em,b3] at z;rcases zD.mp z with z | z
  ·let e:("-": Str).cps.toList=[45]:=rfl
   rw[e] at z;exact h1 (zv.mp z)
  ·exact h2 (iF z)
def uQ (h:ow x):58∉(cR x).cps.toList:=by
 unfold cR;split
 ·exact d8 ∅ ∅
 ·rw[b3,b3]
  intro z;rcases zD.mp z with z | z
  ·rcases zD.mp z with z | z
   ·exact d8 ∅ ∅ z
   ·let e:("/": Str).cps.toList=[47]:=rfl
    rw[e] at z;exact absurd (zv.mp z) ∅
  ·exact d8 ∅ ∅ z
def CY (h0:0<=n) (h:n<10000):⇑(dec n)<=4:=by
 let⟨m,rfl⟩:=yC h0;exact vh ∅ ()
abbrev fw (x:Int×Int):HO:=.tup [.int x.1,.int x.2]
inductive Fc (H:Hp):V->Option (Int×Int)->Prop where
 | aU:Fc H .aU none
 | ref {b:wV} {q:Int×Int}:H b=some (fw q)->Fc H (.ref b) (some q)
def Fc.mono (s:au H H') (h:Fc H v o):Fc H' v o:=by
 cases h with
 | aU=>exact .aU
 | ref h=>exact .ref (s _ _ h)
def Qt (H:Hp) (v:V) (it:Item):Prop:=∃p pv a,v=.ref p/\H p=some (.tup [pv,.ref a])/\H a=some (fw it.2)/\Fc H pv it.1
noncomputable def pB:List Nat:=("0123456789": Str).cps.toList
noncomputable def rn (most:Int) (cs:List Nat):Option Int:=
 if(⇑cs:Int)<1 then none else if most<⇑cs then none else if cs.all (λc=>decide (c∈pB))=true then(if cs[0]?=some 48/\1<⇑cs then none else some ((NumText.digitsVal cs:Nat):Int)) else none
noncomputable def ov:Option Int->V
 | none=>.aU
 | some n=>.int n
noncomputable def rs (most:Int) (t:Str):Option Int:=if t.cps.toList[0]?=some 45 then(match rn most (t.cps.toList.drop 1) with | some n=>if n=0 then none else some (-n) | none=>none) else rn most t.cps.toList
noncomputable def rp (a b:Str):Option (Int×Int):=match rs 2 a,rs 2 b with
 | some f,some h=>if(h-7*f)%12=0 then some (f,h) else none
 | _,_=>none
noncomputable def JZ (t:Str):Option (Int×Int):=match Txt.split t "/" with
 | [a]=>(match rn 4 a.cps.toList with | some n=>some (red n 1) | none=>none)
 | [a,b]=>(match rn 4 a.cps.toList,rn 4 b.cps.toList with | some n,some m=>if m=0 then none else some (red n m) | _,_=>none)
 | _=>none
noncomputable def lr (t:Str):Option (Int×Int):=match JZ t with
 | some x=>if x.1=0 then none else some x
 | none=>none
noncomputable def ir (t:Str):Option Item:=match lr ((Txt.split t ":").getLast?.getD "") with
 | none=>none
 | some x=>if(Txt.split t ":").dropLast=[("r": Str)] then some (none,x) else match (Txt.split t ":").dropLast with
  | [a,b]=>(match rp a b with | some q=>some (some q,x) | none=>none)
  | _=>none
def Ln (H:Hp) (v:V):Option Item->Prop
 | none=>v=.aU
 | some it=>Qt H v it
def CO (h:c∈pB):48<=c/\c<=57:=by
 let e:pB=[48,49,50,51,52,53,54,55,56,57]:=rfl;rw[e] at h;simp at h;ext
def Ic (h:rn most cs=some n) (hm:most<=4):0<=n/\n<10000/\(cs.all (λc=>decide (c∈pB))=true):=by
 unfold rn at h;split at h
 ·cases h
 ·split at h
  ·cases h
  ·split at h
   ·rename_i h1 h2 h3
    split at h
    ·cases h
    ·cases h
     refine{Int.natCast_nonneg _,?_,h3};let hl:⇑cs<=4:=()
     let key:∀(l:List Nat) (a:Nat),l.all (λc=>decide (c∈pB))=true->l.foldl (λacc c=>acc*10+(c-48)) a<(a+1)*10^⇑l:=by
      intro l
      induction l with
      | nil=>intro a _;simp
      | cons c l ih=>
       intro a ha;rw[wq,zL] at ha;let i3:=CO (zX ha.1);let i1:=ih (a*10+(c-48)) ha.2;let i2:(a*10+(c-48)+1)*10^⇑l<=((a+1)*10)*10^⇑l:=Nat.mul_le_mul_right _ ();rw[List.foldl_cons,zo,Nat.pow_succ,Nat.mul_comm (10^⇑l) 10,<-Nat.mul_assoc];exact zV i1 i2
     let k1:NumText.digitsVal cs<10^⇑cs:=by have:=key cs 0 h3;rw[Nat.zero_add,Nat.one_mul] at this;exact this
     let k2:10^⇑cs<=10^4:=Nat.pow_le_pow_right ∅ hl;ext
   ·cases h
def EX (h:cs.all (λc=>decide (c∈pB))=true):NumText.AllDigits cs:=λc hc=>by
 have:=(yf.mp h) c hc;exact CO (zX this)
inductive gx (vs:List V) (H:Hp) (Q:VK) (E:XK):Prop
 | mk (a b:Int) (_:vs=[.int a,.int b]) (_:0<=a) (_:0<=b) (_:Q (.int (Int.gcd a b:Nat)) H)
inductive dZ (vs:List V) (H:Hp) (Q:VK) (E:XK):Prop
 | mk (t b:Int) (_:vs=[.int t,.int b]) (_:0<=t) (_:0<b) (_:Sz 8999 b) (_:∀p H',au H H'->H' p=some (fw (red t b))->Q (.ref p) H')
inductive HW (vs:List V) (H:Hp) (Q:VK) (E:XK):Prop
 | mk (x y:Int×Int) (p q:wV) (n m:Nat) (_:vs=[.ref p,.ref q]) (_:H p=some (fw x)) (_:H q=some (fw y)) (_:Rd x) (_:Rd y) (_:pH n x) (_:pH m y) (_:n+m<=8999) (_:∀r H',au H H'->H' r=some (fw (add x y))->Q (.ref r) H')
inductive DP (vs:List V) (H:Hp) (Q:VK) (E:XK):Prop
 | mk (x y:Int×Int) (p q:wV) (_:vs=[.ref p,.ref q]) (_:H p=some (fw x)) (_:H q=some (fw y)) (_:pH 8999 x) (_:pH 8999 y) (_:Q (.bl (decide (x.1*y.2<y.1*x.2))) H)
inductive eR (vs:List V) (H:Hp) (Q:VK) (E:XK):Prop
 | mk (c k:Int) (_:vs=[.int c,.int k]) (_:0<=k) (_:k<1000000) (_:Q (.int (mixed c k)) H)
abbrev jR:Sp:=dZ
inductive o9 (K:yr) (vs:List V) (H:Hp) (Q:VK) (E:XK):Prop
 | mk (a:wV) (ns:List Int) (k:Int) (_:vs=[.ref a,.int k]) (_:aD K H a (ns.map V.int)) (_:0<=k) (_:⇑ns<=1000) (_:∀c:Int,Q (.int c) H)
inductive fi (vs:List V) (H:Hp) (Q:VK) (E:XK):Prop
 | mk (t:Str) (most:Int) (_:vs=[.str t,.int most]) (_:⇑t<=600) (_:∀H',au H H'->Q (ov (rn most t.cps.toList)) H')
inductive je (vs:List V) (H:Hp) (Q:VK) (E:XK):Prop
 | mk (t:Str) (most:Int) (_:vs=[.str t,.int most]) (_:⇑t<=600) (_:∀H',au H H'->Q (ov (rs most t)) H')
inductive jM (vs:List V) (H:Hp) (Q:VK) (E:XK):Prop
 | mk (a b:Str) (_:vs=[.str a,.str b]) (_:⇑a<=600) (_:⇑b<=600) (_:∀v H',au H H'->Fc H' v (rp a b)->Q v H')
def jd (C:wV):Sp:=λvs H Q E=>∃(t:Str),vs=[.str t]/\⇑t<=600/\(∀x,JZ t=some x->∀p H',au H H'->H' p=some (fw x)->Q (.ref p) H')/\(JZ t=none->∀H',au H H'->E (.ref C) none H')
def fc:Sp:=λvs H Q _=>∃(t:Str),vs=[.str t]/\⇑t<=600/\∀v H',au H H'->Fc H' v (lr t)->Q v H'
def lq:Sp:=λvs H Q _=>∃(t:Str),vs=[.str t]/\⇑t<=600/\∀v H',au H H'->Ln H' v (ir t)->Q v H'
noncomputable def dL (x:Int×Int):Dt:=.tup [.int x.1,.int x.2]
noncomputable def dO (f:α->Dt):Option α->Dt
 | none=>.aU
 | some x=>f x
noncomputable def gk (it:Item):Dt:=.tup [dO dL it.1,dL it.2]
noncomputable def FW (l:List Int):Dt:=.tup (l.map .int)
noncomputable def lG (l:List Str):Dt:=.tup (l.map .str)
abbrev End:=Int×List Int
noncomputable def rM (e:End):Dt:=.tup [.int e.1,FW e.2]
structure Rep where
 first:Int
 last:Int
 times:Int
 ends:List End
noncomputable def lg (r:Rep):Dt:=.tup [.int r.first,.int r.last,.int r.times,.tup (r.ends.map rM)]
structure Lu where
 bc:Int×Int
 key:Int
 marks:List Str
noncomputable def rN (b:Lu):Dt:=.tup [dL b.bc,.int b.key,lG b.marks]
structure Jump where
 CG:Int
 Et:Int
 dG:Int
 mf:Option Int
noncomputable def lH (j:Jump):Dt:=.tup [.int j.CG,.int j.Et,.int j.dG,dO .int j.mf]
noncomputable def words (t:Str):List Str:=(Txt.split t " ").filter λw=>decide (w≠ "")
noncomputable def sgn:List Nat:=("abcdefghijklmnopqrstuvwxyz0123456789": Str).cps.toList
noncomputable def bM (t:Str):Option Str:=if(⇑t:Int)<1 then none else if(12:Int)<⇑t then none else if t.cps.toList.all (λc=>decide (c∈sgn))=true then some t else none
noncomputable def os:Option Str->V
 | none=>.aU
 | some x=>.str x
noncomputable def dN (t:Str):Option Int:=rn 3 t.cps.toList
noncomputable def jj (t:Str) (lo hi:Int):Option Int:=match dN t with
 | some n=>if n<lo then none else if hi<n then none else some n
 | none=>none
noncomputable def qB (a b:Str):Option (Int×Int):=match rp a b with
 | some q=>if 12<(if q.1<0 then -q.1 else q.1) then none else some q
 | none=>none
noncomputable def A9:List Int:=[1,2,4,8,16,32]
noncomputable def fZ (t:Str):Option (Int×Int):=match Txt.split t "/" with
 | [a,b]=>(match jj a 1 32,dN b with | some m,some n=>if n∈A9 then some (m,n) else none | _,_=>none)
 | _=>none
noncomputable def B3 (t:Str):Option Int:=match rs 3 t with
 | some k=>if 7<(if k<0 then -k else k) then none else some k
 | none=>none
noncomputable def kr:List (Option α)->Option (List α)
 | []=>some []
 | none::_=>none
 | some x::r=>match kr r with
  | some l=>some (x::l)
  | none=>none
noncomputable def qD (t:Str):Option End:=match Txt.split t ":" with
 | [a,b]=>(match dN a,kr ((Txt.split b ",").map dN) with | some n,some ps=>some (n,ps) | _,_=>none)
 | _=>none
noncomputable def iV:List Str->Option (Str×(Int×Int)×(Int×Int))
 | [a,b,c,d]=>(match bM a,qB b c,JZ d with | some n,some t,some l=>some (n,t,l) | _,_,_=>none)
 | _=>none
noncomputable def lV (ws:List Str):Option (Str×List Str):=match ws with
 | a::b::r=>(match kr ((a::b::r).map bM) with | some (n::ps)=>some (n,ps) | _=>none)
 | _=>none
noncomputable def sZ:List Str->Option Lu
 | m::k::ms=>(match kr (ms.map bM) with | some l=>(match fZ m,B3 k with | some x,some y=>some {(x),y,l} | _,_=>none) | none=>none)
 | _=>none
noncomputable def mH:List Str->Option (Str×Int×Str)
 | [a,b,c]=>(match bM a,dN b,bM c with | some x,some y,some z=>some (x,y,z) | _,_,_=>none)
 | _=>none
noncomputable def g9:List Str->Option (Int×Str×List Item)
 | b::p::i::r=>(match kr ((i::r).map ir) with | some l=>if l.all (λit=>it.1.isNone)=true then none else(match dN b,bM p with | some x,some y=>some (x,y,l) | _,_=>none) | none=>none)
 | _=>none
noncomputable def gD:List Str->Option Rep
 | a::b::c::r=>(match kr (r.map qD) with | some l=>(match dN a,dN b,jj c 2 9 with | some x,some y,some z=>some {(x),y,z,l} | _,_,_=>none) | none=>none)
 | _=>none
noncomputable def oJ:List Str->Option Jump
 | [a,b,c,d]=>(match dN a,dN b,dN c with | some x,some y,some z=>(match dN d with | some n=>some {x,y,z,some n} | none=>if d ="end" then some {(x),y,z,none} else none) | _,_,_=>none)
 | _=>none
noncomputable def one (f:Str->Option α):List Str->Option α
 | [w]=>f w
 | _=>none
inductive Told where
 | aZ (n:Str)
 | cO (n:Str) (t l:Int×Int)
 | cz (n:Str) (ps:List Str)
 | bar (b:Lu)
 | aE (l:Int×Int)
 | holds (p:Str) (b:Int) (i:Str)
 | av (b:Int) (p:Str) (its:List Item)
 | rep (r:Rep)
 | cD (j:Jump)
noncomputable def gC:List Str->Option Told
 | []=>none
 | w::r=>
  if w ="player" then(one bM r).map .aZ
  else if w ="instrument" then(iV r).map λx=>.cO x.1 x.2.1 x.2.2
  else if w ="staff" then(lV r).map λx=>.cz x.1 x.2
  else if w ="bar" then(sZ r).map .bar
  else if w ="upbeat" then(one lr r).map .aE
  else if w ="holds" then(mH r).map λx=>.holds x.1 x.2.1 x.2.2
  else if w ="notes" then(g9 r).map λx=>.av x.1 x.2.1 x.2.2
  else if w ="repeat" then(gD r).map .rep
  else if w ="jump" then(oJ r).map .cD
  else none
noncomputable def hW (r:Rep):List (Int×Int×List Int):=(r.ends.zip ((r.ends.drop 1).map (·.1)++[r.last+1])).map λp=>(p.1.1,p.2-1,p.1.2)
noncomputable def sortI (l:List Int):List Int:=l.mergeSort
noncomputable def gj:List End->Int->List Int->Option (Int×List Int)
 | [],a,ps=>some (a,ps)
 | e::r,a,ps=>if e.1<=a then none else if e.2≠sortI e.2 then none else gj r e.1 (ps++e.2)
noncomputable def Mw (lo:Int) (n:Nat):List Int:=(List.range n).map λi=>lo+(i:Nat)
noncomputable def gN (r:Rep):Bool:=match r.ends with
 | []=>true
 | _=>(match gj r.ends (r.first-1) [] with | none=>false | some (a,ps)=>decide (a<=r.last)&&decide (sortI ps=Mw 1 (r.times+1-1).toNat))
noncomputable def mE (rs:List Rep) (r:Rep):Bool:=match rs.getLast? with
 | some q=>if r.first<=q.last then false else decide (r.first<=r.last)&&gN r
 | none=>decide (r.first<=r.last)&&gN r
noncomputable def kz (rs:List Rep) (b:Int):Option Rep:=rs.find? λr=>decide (r.first<=b)&&decide (b<=r.last)
noncomputable def iw (rs:List Rep) (b:Int):Bool:=match kz rs b with
 | none=>true
 | some r=>decide (b=r.last)
noncomputable def dA (rs:List Rep) (b:Int):Bool:=match kz rs b with
 | none=>true
 | some r=>decide (b=r.first)
noncomputable def lZ (rs:List Rep) (b:Int):Bool:=rs.all λr=>(hW r).all λe=>!(decide (e.1<=b)&&decide (b<=e.2.1)&&!decide (r.times∈e.2.2))
noncomputable def mU (rs:List Rep) (j:Jump):Bool:=
 if j.dG<j.Et then false else if j.CG<j.dG then false else
 match j.mf with
 | some c=>(decide (j.CG<c)&&dA rs c&&lZ rs c)&&(iw rs j.CG&&dA rs j.Et&&lZ rs j.dG)
 | none=>iw rs j.CG&&dA rs j.Et&&lZ rs j.dG
structure cF where
 players:List Str:=[]
 aB:List (Str×(Int×Int)×(Int×Int)):=[]
 bz:List (Str×List Str):=[]
 bq:List Lu:=[]
 aE:Option (Int×Int):=none
 holds:List (Str×List (Int×Str)):=[]
 av:List ((Int×Str)×List Item):=[]
 repeats:List Rep:=[]
 cD:Option Jump:=none
noncomputable def cF.bc (S:cF) (b:Nat):Int×Int:=match S.bq[b]? with
 | some x=>red x.bc.1 x.bc.2
 | none=>(0,1)
noncomputable def cF.len (S:cF) (b:Nat):Int×Int:=match S.aE with
 | some u=>if b=0 then u else S.bc b
 | none=>S.bc b
noncomputable def gW (l:List Item):Int×Int:=l.foldl (λt it=>add t it.2) (0,1)
noncomputable def cF.has (S:cF) (bs:List Int):Bool:=bs.all λb=>decide (b<⇑S.bq)
noncomputable def fault (S:cF):Told->Option Str
 | .aZ n=>if n∈S.players then some "twice" else if 12<=⇑S.players then some "many" else none
 | .cO n _ _=>if n∈S.aB.map (·.1) then some "twice" else if 12<=⇑S.aB then some "many" else none
 | .cz n ps=>if n∈S.bz.map (·.1) then some "twice" else if¬ps.Nodup then some "twice" else if S.bz.any (λq=>ps.any λp=>decide (p∈q.2))=true then some "twice" else if ps.any (λp=>!decide (p∈S.players))=true then some "name" else none
 | .bar _=>if 200<=⇑S.bq then some "many" else none
 | .aE l=>if S.aE.isSome=true then some "twice" else if ⇑S.bq=0 then some "bar" else if¬l.1*(S.bc 0).2<(S.bc 0).1*l.2 then some "length" else if S.av.any (λp=>decide (p.1.1=0))=true then some "length" else none
 | .holds p b i=>
  let hs:=(S.holds.lookup p).getD []
  if(match hs.getLast? with | some q=>decide (b<=q.1) | none=>false)=true then some "twice" else if p∉S.players then some "name" else if i∉S.aB.map (·.1) then some "name" else if¬S.has [b]=true then some "bar" else if 20<=⇑hs then some "many" else none
 | .av b p its=>if(b,p)∈S.av.map (·.1) then some "twice" else if p∉S.players then some "name" else if¬S.has [b]=true then some "bar" else if gW its≠S.len b.toNat then some "length" else if 40<⇑its then some "many" else none
 | .rep r=>if¬S.has ([r.first,r.last]++r.ends.map (·.1))=true then some "bar" else if S.cD.isSome=true then some "form" else if¬mE S.repeats r=true then some "form" else if 20<=⇑S.repeats then some "many" else none
 | .cD j=>if S.cD.isSome=true then some "twice" else if¬S.has ([j.CG,j.Et,j.dG]++j.mf.toList)=true then some "bar" else if¬mU S.repeats j=true then some "form" else none
noncomputable def gO (hs:List (Str×List (Int×Str))) (p:Str) (h:Int×Str):List (Str×List (Int×Str)):=
 if p∈hs.map (·.1) then hs.map λq=>if q.1=p then(q.1,q.2++[h]) else q else hs++[(p,[h])]
noncomputable def bJ (S:cF):Told->cF
 | .aZ n=>{S with players:=S.players++[n]}
 | .cO n t l=>{S with aB:=S.aB++[(n,t,l)]}
 | .cz n ps=>{S with bz:=S.bz++[(n,ps)]}
 | .bar b=>{S with bq:=S.bq++[b]}
 | .aE l=>{S with aE:=some l}
 | .holds p b i=>{S with holds:=gO S.holds p (b,i)}
 | .av b p its=>{S with av:=S.av++[((b,p),its)]}
 | .rep r=>{S with repeats:=S.repeats++[r]}
 | .cD j=>{S with cD:=some j}
theorem fg (h:Is H d v):∀{ds:List Dt} {vs:List V},ar H ds vs->ar H (ds++[d]) (vs++[v])
 | [],_,q=>by unfold ar at q;subst q;show ar H [d] [v];unfold ar;exact{v,[],rfl,h,by unfold ar;rfl}
 | c::ds,_,q=>by
  unfold ar at q;let⟨u,r,rfl,h1,h2⟩:=q;show ar H (c::(ds++[d])) (u::(r++[v]));unfold ar;exact{u,_,rfl,h1,fg h h2}
def Jp (h:aD K H p xs) (hi:i<⇑xs):(J0 K p).go i H:={xs,xs[i],h,zb hi}
def Jo (h:cx K H p xs) (hi:i<⇑xs):(LX K p).go i H:={xs,xs[i],h,zb hi}
def nG (e:au H H') (h:H a=some (.tup xs)):cx K H' a xs:=cx.of (e _ _ h)
theorem _root_.L2.au.back (s:au H H') (h:H' a=none):H a=none:=by
 cases q:H a with
 | none=>rfl
 | some u=>rw[s _ _ q] at h;cases h
def kj {α:Type} {J:It} {ws:List α} {enc:α->V} {U₀:St} {g:TG} {te:TE} {Q:VK} {H1:Hp} (F:α->Dt) (Pσ:St->Prop) (hn:⇑ws<=sizeLine) (h0:Pσ U₀)
  (go:∀i H,i<⇑ws->au H1 H->J.go i H) (stop:∀H,au H1 H->J.stop ⇑ws H) (yl:∀(i:Nat) x H H2 (hi:i<⇑ws),au H1 H->J.HD i H x H2->H2=H/\x=enc ws[i])
  (turn:∀(a:α) (U:St) (H:Hp) (R:St->V->Hp->Prop),a∈ws->au H1 H->Pσ U->(∀U3 y H5,au H H5->Is H5 (F a) y->Pσ U3->R U3 y H5)->g (enc a) U H λU3 H3=>te U3 H3 λy H5=>R U3 y H5)
  (fin:∀D vs H,au H1 H->H1 D=none->H D=some (.lst vs)->ar H (ws.map F) vs->Q (.ref D) H):dE U₀ g sC te Q J H1:=by
 refine{λi m xs U H=>m=⇑ws-i/\i<=⇑ws/\⇑xs=i/\au H1 H/\ar H ((ws.take i).map F) xs/\Pσ U,{_,rfl,zZ _,rfl,au.refl _,by simp[ar],h0},?_};rintro i m xs U H ⟨rfl,hi,hx,sm,il,pσ⟩;rcases xn i ⇑ws with hlt | hge
 ·refine .inr {go i H hlt sm,(),?_}
  intro x H2 hy;let⟨rfl,rfl⟩:=yl i x H H2 hlt sm hy;refine turn ws[i] U H2 (λU3 y H5=>if true=true then∃m',m'<⇑ws-i/\(m'=⇑ws-(i+1)/\i+1<=⇑ws/\⇑(xs++[y])=i+1/\au H1 H5/\ar H5 ((ws.take (i+1)).map F) (xs++[y])/\Pσ U3) else False) (yc hlt) sm pσ ?_;rintro U3 y H5 s5 iy p3;rw[yF rfl];refine{_,(),rfl,hlt,by simp[hx],sm.trans s5,?_,p3};rw[xb,zb hlt,zg];exact fg iy (il.mono s5)
 ·let e:i=⇑ws:=()
  subst e;refine .inl {stop H sm,(),λD hD=>?_};let il':ar H (ws.map F) xs:=by rw[zK] at il;exact il
  exact fin D xs _ (sm.trans (cj hD)) (sm.back hD) aA (il'.mono (cj hD))
def rO {α:Type} {J:It} {ws:List α} {enc:α->V} {U₀:St} {g:TG} {te:TE} {Q:VK} {H1:Hp} (F:α->Dt) (Pσ:St->Prop) (hn:⇑ws<=sizeLine) (h0:Pσ U₀)
  (go:∀i H,i<⇑ws->au H1 H->J.go i H) (stop:∀H,au H1 H->J.stop ⇑ws H) (yl:∀(i:Nat) x H H2 (hi:i<⇑ws),au H1 H->J.HD i H x H2->H2=H/\x=enc ws[i])
  (turn:∀(a:α) (U:St) (H:Hp) (R:St->V->Hp->Prop),a∈ws->au H1 H->Pσ U->(∀U3 y H5,au H H5->Is H5 (F a) y->Pσ U3->R U3 y H5)->g (enc a) U H λU3 H3=>te U3 H3 λy H5=>R U3 y H5)
  (fin:∀D vs H,au H1 H->H D=some (.lst vs)->ar H (ws.map F) vs->Q (.ref D) H):dE U₀ g sC te Q J H1:=kj F Pσ hn h0 go stop yl turn λD vs H s _=>fin D vs H s
def gp {K:yr} {α:Type} {p:wV} {ws:List α} {enc:α->V} {U₀:St} {g:TG} {te:TE} {Q:VK} {H1:Hp} (F:α->Dt) (Pσ:St->Prop) (hn:⇑ws<=sizeLine) (hp:aD K H1 p (ws.map enc)) (h0:Pσ U₀)
  (turn:∀(a:α) (U:St) (H:Hp) (R:St->V->Hp->Prop),a∈ws->au H1 H->Pσ U->(∀U3 y H5,au H H5->Is H5 (F a) y->Pσ U3->R U3 y H5)->g (enc a) U H λU3 H3=>te U3 H3 λy H5=>R U3 y H5)
  (fin:∀D vs H,au H1 H->H1 D=none->H D=some (.lst vs)->ar H (ws.map F) vs->Q (.ref D) H):dE U₀ g sC te Q (J0 K p) H1:=by
 refine kj F Pσ hn h0 (λi H hi sm=>Jp (sm.seq hp) (by rw[za];exact hi)) (λH sm=>{_,sm.seq hp,by rw[za];exact zh _}) ?_ turn fin;rintro i x H H2 hi sm ⟨rfl,hy⟩;let hx':=hy _ (sm.seq hp);rw[zH,zb hi] at hx';cases hx';exact{(rfl),rfl}
def dS {K:yr} {α:Type} {p:wV} {ws:List α} {enc:α->V} {U₀:St} {g:TG} {te:TE} {Q:VK} {H1:Hp} (F:α->Dt) (Pσ:St->Prop) (hn:⇑ws<=sizeLine) (hp:aD K H1 p (ws.map enc)) (h0:Pσ U₀)
  (turn:∀(a:α) (U:St) (H:Hp) (R:St->V->Hp->Prop),a∈ws->au H1 H->Pσ U->(∀U3 y H5,au H H5->Is H5 (F a) y->Pσ U3->R U3 y H5)->g (enc a) U H λU3 H3=>te U3 H3 λy H5=>R U3 y H5)
  (fin:∀D vs H,au H1 H->H D=some (.lst vs)->ar H (ws.map F) vs->Q (.ref D) H):dE U₀ g sC te Q (J0 K p) H1:=by
 refine rO F Pσ hn h0 (λi H hi sm=>Jp (sm.seq hp) (by rw[za];exact hi)) (λH sm=>{_,sm.seq hp,by rw[za];exact zh _}) ?_ turn fin;rintro i x H H2 hi sm ⟨rfl,hy⟩;let hx':=hy _ (sm.seq hp);rw[zH,zb hi] at hx';cases hx';exact{(rfl),rfl}
def gq {K:yr} {α:Type} {p:wV} {ws:List α} {enc:α->V} {U₀:St} {g:TG} {te:TE} {Q:VK} {H1:Hp} (F:α->Dt) (Pσ:St->Prop) (hn:⇑ws<=sizeLine) (hp:H1 p=some (.tup (ws.map enc))) (h0:Pσ U₀)
  (turn:∀(a:α) (U:St) (H:Hp) (R:St->V->Hp->Prop),a∈ws->au H1 H->Pσ U->(∀U3 y H5,au H H5->Is H5 (F a) y->Pσ U3->R U3 y H5)->g (enc a) U H λU3 H3=>te U3 H3 λy H5=>R U3 y H5)
  (fin:∀D vs H,au H1 H->H D=some (.lst vs)->ar H (ws.map F) vs->Q (.ref D) H):dE U₀ g sC te Q (LX K p) H1:=by
 refine rO F Pσ hn h0 (λi H hi sm=>Jo (nG sm hp) (by rw[za];exact hi)) (λH sm=>{_,nG sm hp,by rw[za];exact zh _}) ?_ turn fin;rintro i x H H2 hi sm ⟨rfl,hy⟩;let hx':=hy _ (nG sm hp);rw[zH,zb hi] at hx';cases hx';exact{(rfl),rfl}
noncomputable def eI (v:V):Bool:=decide (v=.aU)
noncomputable def Dt.eI:Dt->Bool
 | .aU=>true
 | _=>false
def Jj:∀{d:Dt} {v:V},Is H d v->eI v=Dt.eI d
 | .aU,_,h=>by unfold Is at h;subst h;rfl
 | .bl _,_,h=>by unfold Is at h;subst h;rfl
 | .int _,_,h=>by unfold Is at h;subst h;rfl
 | .str _,_,h=>by unfold Is at h;subst h;rfl
 | .tup _,_,h=>by unfold Is at h;let⟨a,vs,rfl,_⟩:=h;rfl
theorem gM:∀{ds:List Dt} {vs:List V},ar H ds vs->vs.any eI=ds.any Dt.eI
 | [],_,h=>by unfold ar at h;subst h;rfl
 | d::ds,_,h=>by
  unfold ar at h;let⟨v,r,rfl,h1,h2⟩:=h;rw[y9,y9,Jj h1,gM h2]
theorem i6:∀{bs:List Bool} {vs:List V},ar H (bs.map Dt.bl) vs->vs=bs.map V.bl
 | [],_,h=>by unfold ar at h;exact h
 | b::bs,_,h=>by
  rw[zf] at h;unfold ar at h;let⟨v,r,rfl,h1,h2⟩:=h;unfold Is at h1;rw[h1,i6 h2];rfl
theorem gJ:∀{bs:List Str} {vs:List V},ar H (bs.map Dt.str) vs->vs=bs.map V.str
 | [],_,h=>by unfold ar at h;exact h
 | b::bs,_,h=>by
  rw[zf] at h;unfold ar at h;let⟨v,r,rfl,h1,h2⟩:=h;unfold Is at h1;rw[h1,gJ h2];rfl
theorem gK:∀{bs:List Int} {vs:List V},ar H (bs.map Dt.int) vs->vs=bs.map V.int
 | [],_,h=>by unfold ar at h;exact h
 | b::bs,_,h=>by
  rw[zf] at h;unfold ar at h;let⟨v,r,rfl,h1,h2⟩:=h;unfold Is at h1;rw[h1,gK h2];rfl
theorem vI:∀{bs:List Str},ar H (bs.map Dt.str) (bs.map V.str)
 | []=>by simp[ar]
 | b::bs=>by rw[zf,zf];unfold ar;exact{_,_,rfl,by unfold Is;rfl,vI}
theorem AB:∀{bs:List Int},ar H (bs.map Dt.int) (bs.map V.int)
 | []=>by simp[ar]
 | b::bs=>by rw[zf,zf];unfold ar;exact{_,_,rfl,by unfold Is;rfl,AB}
def Fe (d:α->Dt):Prop:=∀a,Dt.eI (d a)=false
theorem fY {α:Type} {d:α->Dt} (f:Fe d):∀{l:List (Option α)},(l.map (dO d)).any Dt.eI=true->kr l=none
 | [],h=>by cases h
 | none::_,_=>rfl
 | some x::r,h=>by
  rw[zf,y9] at h;let e:Dt.eI (dO d (some x))=false:=f x;rw[e,Bool.false_or] at h;show(match kr r with | some l=>some (x::l) | none=>none)=none;rw[fY f h]
theorem fX:∀{l:List (Option α)},(l.map (dO d)).any Dt.eI=false->∃xs,kr l=some xs/\l.map (dO d)=xs.map d/\⇑xs=⇑l
 | [],_=>{[],rfl,rfl,rfl}
 | none::_,h=>by cases h
 | some x::r,h=>by
  rw[zf,y9,Bool.or_eq_false_iff] at h;let⟨xs,e1,e2,e3⟩:=fX h.2;refine{x::xs,?_,?_,by simp[e3]}
  ·show(match kr r with | some l=>some (x::l) | none=>none)=_
   rw[e1]
  ·rw[zf,zf,e2];rfl
def CM:Fe Dt.str:=λ_=>rfl
def Jv:Fe Dt.int:=λ_=>rfl
def Nc:Fe dL:=λ_=>rfl
def Jw:Fe rM:=λ_=>rfl
def GV:Fe gk:=λ_=>rfl
def q9 (h:Fc H v o):Is H (dO dL o) v:=by
 cases h with
 | aU=>unfold dO Is;rfl
 | ref h=>exact AA h
def dF (h:Is H (dO dL o) v):Fc H v o:=by
 cases o with
 | none=>unfold dO Is at h;subst h;exact .aU
 | some q=>
  unfold dO dL Is at h;let⟨a,vs,rfl,ha,hl⟩:=h;let e:[Dt.int q.1,Dt.int q.2]=[q.1,q.2].map Dt.int:=rfl;rw[e] at hl;rw[gK hl] at ha;exact .ref ha
def ra (o:Option Int):Is H (dO .int o) (ov o):=by cases o <;> (unfold dO Is;rfl)
def uV (o:Option Str):Is H (dO .str o) (os o):=by cases o <;> (unfold dO Is;rfl)
def OJ (h:Ln H v o):Is H (dO gk o) v:=by
 cases o with
 | none=>unfold dO Is;exact h
 | some it=>
  let⟨p,pv,a,rfl,h1,h2,h3⟩:=h;unfold dO gk;unfold Is;refine{p,_,rfl,h1,?_};unfold ar;refine{_,_,rfl,q9 h3,?_};unfold ar;exact{_,_,rfl,AA h2,by unfold ar;rfl}
def BF:Sp:=λvs H Q _=>∃(t:Str),vs=[.str t]/\⇑t<=1000000/\∀p H',au H H'->H' p=some (.lst ((words t).map V.str))->Q (.ref p) H'
def iQ:Sp:=λvs H Q _=>∃(t:Str),vs=[.str t]/\⇑t<=600/\∀H',au H H'->Q (os (bM t)) H'
def gY:Sp:=λvs H Q _=>∃(t:Str),vs=[.str t]/\⇑t<=600/\∀H',au H H'->Q (ov (dN t)) H'
inductive qo (vs:List V) (H:Hp) (Q:VK) (E:XK):Prop
 | mk (t:Str) (lo hi:Int) (_:vs=[.str t,.int lo,.int hi]) (_:⇑t<=600) (_:∀H',au H H'->Q (ov (jj t lo hi)) H')
def vP:Sp:=λvs H Q _=>∃(t:Str),vs=[.str t]/\⇑t<=600/\∀v H',au H H'->Fc H' v (JZ t)->Q v H'
inductive vO (vs:List V) (H:Hp) (Q:VK) (E:XK):Prop
 | mk (a b:Str) (_:vs=[.str a,.str b]) (_:⇑a<=600) (_:⇑b<=600) (_:∀v H',au H H'->Fc H' v (qB a b)->Q v H')
def sE (K:yr):Sp:=λvs H Q _=>∃(t:Str),vs=[.str t]/\⇑t<=600/\∀v H',au H H'->Fc H' v (fZ t)->Q v H'
def BI:Sp:=λvs H Q _=>∃(t:Str),vs=[.str t]/\⇑t<=600/\∀H',au H H'->Q (ov (B3 t)) H'
inductive sG (K:yr) (vs:List V) (H:Hp) (Q:VK) (E:XK):Prop
 | mk (a:wV) (us:List V) (_:vs=[.ref a]) (_:aD K H a us) (_:⇑us<=1000000) (_:∀H',au H H'->Q (if us.any eI=true then .aU else .ref a) H')
inductive sF (vs:List V) (H:Hp) (Q:VK) (E:XK):Prop
 | mk (a:wV) (us:List V) (_:vs=[.ref a]) (_:H a=some (.tup us)) (_:⇑us<=1000000) (_:∀H',au H H'->Q (if us.any eI=true then .aU else .ref a) H')
def oB:Sp:=λvs H Q _=>∃(t:Str),vs=[.str t]/\⇑t<=600/\∀v H',au H H'->Is H' (dO rM (qD t)) v->Q v H'
inductive dY (K:yr) (D:Hp->Hp->V->List Str->Prop) (vs:List V) (H:Hp) (Q:VK) (E:XK):Prop
 | mk (p:wV) (ws:List Str) (_:vs=[.ref p]) (_:aD K H p (ws.map V.str)) (_:⇑ws<=1000000) (_:(∀x∈ws,⇑x<=600)) (_:∀v H',au H H'->D H H' v ws->Q v H')
noncomputable def l8 (x:Str×(Int×Int)×(Int×Int)):Dt:=.tup [.str x.1,dL x.2.1,dL x.2.2]
noncomputable def ki (x:Str×List Str):Dt:=.tup [.str x.1,lG x.2]
noncomputable def oU (x:Str×Int×Str):Dt:=.tup [.str x.1,.int x.2.1,.str x.2.2]
def F5 (H:Hp) (v:V) (x:Int×Str×List Item):Prop:=∃a q vs,v=.ref a/\H a=some (.tup [.int x.1,.str x.2.1,.ref q])/\H q=some (.lst vs)/\ar H (x.2.2.map gk) vs
def fS (H0 H:Hp) (v:V) (x:Int×Str×List Item):Prop:=∃a q vs,v=.ref a/\H a=some (.tup [.int x.1,.str x.2.1,.ref q])/\H q=some (.lst vs)/\ar H (x.2.2.map gk) vs/\H0 q=none
def fS.at (h:fS H0 H v x):F5 H v x:=by
 let⟨a,q,vs,h1,h2,h3,h4,_⟩:=h;exact{(a),q,vs,h1,h2,h3,h4}
theorem fS.back (s:au H00 H0) (h:fS H0 H v x):fS H00 H v x:=by
 let⟨a,q,vs,h1,h2,h3,h4,h5⟩:=h;exact{a,q,vs,h1,h2,h3,h4,s.back h5}
def lI (d:α->Dt) (f:List Str->Option α) (_ H:Hp) (v:V) (ws:List Str):Prop:=Is H (dO d (f ws)) v
def O1 (H0 H:Hp) (v:V) (ws:List Str):Prop:=match g9 ws with
 | none=>v=.aU
 | some x=>fS H0 H v x
def dH (h:Is H d v):ar H [d] [v]:=by unfold ar;exact{_,_,rfl,h,by unfold ar;rfl}
def aM (h:Is H d v) (r:ar H ds vs):ar H (d::ds) (v::vs):=by unfold ar;exact{_,_,rfl,h,r}
def eM:ar H [] []:=by unfold ar;rfl
def d7 (h:H a=some (.tup vs)) (r:ar H ds vs):Is H (.tup ds) (.ref a):=by unfold Is;exact{_,_,rfl,h,r}
def lY:Is H (.str x) (.str x):=by unfold Is;rfl
def dI:Is H (.int x) (.int x):=by unfold Is;rfl
def cM:Is H .aU .aU:=by unfold Is;rfl
def cK (xs:List V) (k:Nat):gm xs (some (k:Int)) none=xs.drop k:=by
 unfold gm;rw[HT.BZ];let e:HT.c0 ⇑xs 0 (some (k:Int))=min k ⇑xs:=by unfold HT.c0;simp;ext
 rw[e];rcases Nat.le_total k ⇑xs with h | h
 ·rw[Nat.min_eq_left h]
  exact xc (by rw[xj];exact zh _)
 ·rw[Nat.min_eq_right h,List.drop_eq_nil_of_le (zh _),List.drop_eq_nil_of_le h,List.take_nil]
def m5 (xs:List V) (k:Nat):gm xs none (some (k:Int))=xs.take k:=by
 unfold gm;rw[HT.BZ,List.drop_zero,Nat.sub_zero];let e:HT.c0 ⇑xs ⇑xs (some (k:Int))=min k ⇑xs:=by unfold HT.c0;simp;ext
 rw[e];rcases Nat.le_total k ⇑xs with h | h
 ·rw[Nat.min_eq_left h]
 ·rw[Nat.min_eq_right h,xc (zh _),xc h]
def lU (a b:Str) (r:List Str):lV (a::b::r)=(match kr ((a::b::r).map bM) with | some (n::ps)=>some (n,ps) | _=>none):=rfl
def eQ (H0 H:Hp) (v:V):Option Told->Prop
 | none=>v=.aU
 | some (.aZ n)=>v=.str n
 | some (.cO n t l)=>Is H (l8 (n,t,l)) v
 | some (.cz n ps)=>Is H (ki (n,ps)) v
 | some (.bar b)=>Is H (rN b) v
 | some (.aE l)=>Is H (dL l) v
 | some (.holds p b i)=>Is H (oU (p,b,i)) v
 | some (.av b p its)=>fS H0 H v (b,p,its)
 | some (.rep r)=>Is H (lg r) v
 | some (.cD j)=>Is H (lH j) v
inductive BH (K:yr) (vs:List V) (H:Hp) (Q:VK) (E:XK):Prop
 | mk (p:wV) (x:Str) (ws:List Str) (_:vs=[.ref p]) (_:aD K H p ((x::ws).map V.str)) (_:⇑ws<=999999) (_:(∀y∈x::ws,⇑y<=600)) (_:∀v H',au H H'->eQ H H' v (gC (x::ws))->Q v H')
def jH (h:Is H (dO d o) v) (hg:∀x,Is H (d x) v->eQ H0 H v (some (g x))):eQ H0 H v (o.map g):=by
 cases o with
 | none=>unfold dO Is at h;exact h
 | some x=>exact hg x h
theorem eQ.back (s:au H00 H0):∀{t:Option Told},eQ H0 H v t->eQ H00 H v t
 | none,h=>h
 | some (.aZ _),h=>h
 | some (.cO _ _ _),h=>h
 | some (.cz _ _),h=>h
 | some (.bar _),h=>h
 | some (.aE _),h=>h
 | some (.holds _ _ _),h=>h
 | some (.av _ _ _),h=>fS.back s h
 | some (.rep _),h=>h
 | some (.cD _),h=>h
def gw {α:Type} {l:List α} {i:Nat} {x:α} (h:l[i]?=some x):l.take (i+1)=l.take i++[x]:=by rw[xb,h];rfl
theorem FR:∀{l:List α} {i:Nat} {x:α},l[i]?=some x->(l.take i).find? p=none->p x=true->l.find? p=some x
 | [],i,x,h,_,_=>by simp at h
 | y::l,0,x,h,_,hx=>by simp at h;subst h;rw[yJ,hx]
 | y::l,i+1,x,h,hn,hx=>by
  rw[List.take_succ_cons,yJ] at hn;rw[yJ];cases q:p y with
  | true=>rw[q] at hn;cases hn
  | false=>rw[q] at hn;exact FR (by simpa using h) hn hx
def vd {α:Type} {p:α->Bool} {l:List α} {i:Nat} {x:α} (h:l[i]?=some x) (hn:(l.take i).find? p=none) (hx:p x=false):(l.take (i+1)).find? p=none:=by
 rw[gw h,List.find?_append,hn];simp[hx]
def uj (K:yr) (H:Hp) (p:wV) (rs:List Rep):Prop:=∃vs,aD K H p vs/\ar H (rs.map lg) vs
theorem uj.mono {K:yr} {H H':Hp} (s:au H H') {p:wV} {rs:List Rep} (h:uj K H p rs):uj K H' p rs:=by
 let⟨vs,h1,h2⟩:=h;exact{vs,s.seq h1,h2.mono s}
def iR (h:Is H (lg r) v):∃a e,v=.ref a/\H a=some (.tup [.int r.first,.int r.last,.int r.times,.ref e])/\Is H (.tup (r.ends.map rM)) (.ref e):=by
 unfold lg Is at h;let⟨a,vs,rfl,ha,hl⟩:=h;unfold ar at hl;let⟨v1,r1,rfl,h1,hl⟩:=hl;unfold ar at hl;let⟨v2,r2,rfl,h2,hl⟩:=hl;unfold ar at hl;let⟨v3,r3,rfl,h3,hl⟩:=hl;unfold ar at hl;let⟨v4,r4,rfl,h4,hl⟩:=hl;unfold ar at hl;subst hl;unfold Is at h1 h2 h3;subst h1 h2 h3;let h4':=h4;unfold Is at h4;let⟨e,us,rfl,he,hle⟩:=h4;exact{(a),e,rfl,ha,h4'}
def AJ (h:Is H (rM e) v):∃a q,v=.ref a/\H a=some (.tup [.int e.1,.ref q])/\H q=some (.tup (e.2.map V.int)):=by
 unfold rM Is at h;let⟨a,vs,rfl,ha,hl⟩:=h;unfold ar at hl;let⟨v1,r1,rfl,h1,hl⟩:=hl;unfold ar at hl;let⟨v2,r2,rfl,h2,hl⟩:=hl;unfold ar at hl;subst hl;unfold Is at h1;subst h1;unfold FW Is at h2;let⟨q,us,rfl,hq,hle⟩:=h2;rw[gK hle] at hq;exact{(a),q,rfl,ha,hq}
def cX {H:Hp} {α:Type} {d:α->Dt} {xs:List α} {vs:List V} {i:Nat} {v:V} (h:ar H (xs.map d) vs) (e:vs[i]?=some v):∃x,xs[i]?=some x/\Is H (d x) v:=by
 let⟨c,h1,h2⟩:=h.get e;rw[zH] at h1;cases q:xs[i]? with
 | none=>rw[q] at h1;cases h1
 | some x=>rw[q] at h1;cases h1;exact{(x),rfl,h2}
def aI {H:Hp} {α:Type} {d:α->Dt} {xs:List α} {vs:List V} (h:ar H (xs.map d) vs):⇑vs=⇑xs:=by rw[h.len,za]
inductive oY (K:yr) (vs:List V) (H:Hp) (Q:VK) (E:XK):Prop
 | mk (p:wV) (rs:List Rep) (b:Int) (_:vs=[.ref p,.int b]) (_:uj K H p rs) (_:∀v,Is H (dO lg (kz rs b)) v->Q v H)
inductive vQ (K:yr) (vs:List V) (H:Hp) (Q:VK) (E:XK):Prop
 | mk (p:wV) (rs:List Rep) (b:Int) (_:vs=[.ref p,.int b]) (_:uj K H p rs) (_:Q (.bl (iw rs b)) H)
inductive vR (K:yr) (vs:List V) (H:Hp) (Q:VK) (E:XK):Prop
 | mk (p:wV) (rs:List Rep) (b:Int) (_:vs=[.ref p,.int b]) (_:uj K H p rs) (_:Q (.bl (dA rs b)) H)
noncomputable def G7 (x:Int×Int×List Int):Dt:=.tup [.int x.1,.int x.2.1,FW x.2.2]
inductive DQ (vs:List V) (H:Hp) (Q:VK) (E:XK):Prop
 | mk (v:V) (r:Rep) (_:vs=[v]) (_:Is H (lg r) v) (_:⇑r.ends<=1000000) (_:∀p us H',au H H'->H' p=some (.lst us)->ar H' ((hW r).map G7) us->Q (.ref p) H')
inductive o7 (K:yr) (vs:List V) (H:Hp) (Q:VK) (E:XK):Prop
 | mk (p:wV) (rs:List Rep) (b:Int) (_:vs=[.ref p,.int b]) (_:uj K H p rs) (_:(∀r∈rs,⇑r.ends<=1000000)) (_:∀H',au H H'->Q (.bl (lZ rs b)) H')
def ma {α:Type} {J:It} {ws:List α} {U₀:St} {g:TG} {te:TE} {Q:VK} {H1:Hp} (Y:α->V->Hp->Prop) (F:α->Dt) (Pσ:St->Prop) (hn:⇑ws<=sizeLine) (h0:Pσ U₀)
  (go:∀i H,i<⇑ws->au H1 H->J.go i H) (stop:∀H,au H1 H->J.stop ⇑ws H) (yl:∀(i:Nat) x H H2 (hi:i<⇑ws),au H1 H->J.HD i H x H2->au H H2/\Y ws[i] x H2)
  (turn:∀(a:α) (x:V) (U:St) (H:Hp) (R:St->V->Hp->Prop),a∈ws->au H1 H->Y a x H->Pσ U->(∀U3 y H5,au H H5->Is H5 (F a) y->Pσ U3->R U3 y H5)->g x U H λU3 H3=>te U3 H3 λy H5=>R U3 y H5)
  (fin:∀D vs H,au H1 H->H D=some (.lst vs)->ar H (ws.map F) vs->Q (.ref D) H):dE U₀ g sC te Q J H1:=by
 refine{λi m xs U H=>m=⇑ws-i/\i<=⇑ws/\⇑xs=i/\au H1 H/\ar H ((ws.take i).map F) xs/\Pσ U,{_,rfl,zZ _,rfl,au.refl _,by simp[ar],h0},?_};rintro i m xs U H ⟨rfl,hi,hx,sm,il,pσ⟩;rcases xn i ⇑ws with hlt | hge
 ·refine .inr {go i H hlt sm,(),?_}
  intro x H2 hy;let⟨s2,hY⟩:=yl i x H H2 hlt sm hy;refine turn ws[i] x U H2 (λU3 y H5=>if true=true then∃m',m'<⇑ws-i/\(m'=⇑ws-(i+1)/\i+1<=⇑ws/\⇑(xs++[y])=i+1/\au H1 H5/\ar H5 ((ws.take (i+1)).map F) (xs++[y])/\Pσ U3) else False) (yc hlt) (sm.trans s2) hY pσ ?_;rintro U3 y H5 s5 iy p3;rw[yF rfl];refine{_,(),rfl,hlt,by simp[hx],(sm.trans s2).trans s5,?_,p3};rw[xb,zb hlt,zg];exact fg iy (il.mono (s2.trans s5))
 ·let e:i=⇑ws:=()
  subst e;refine .inl {stop H sm,(),λD hD=>?_};let il':ar H (ws.map F) xs:=by rw[zK] at il;exact il
  exact fin D xs _ (sm.trans (cj hD)) aA (il'.mono (cj hD))
structure Ow where
 dx:wV
 pl:wV
 ins:wV
 st:wV
 ba:wV
 ho:wV
 no:wV
 re:wV
 hs:List wV
 ns:List wV
noncomputable def Ow.lists (o:Ow):List wV:=[o.pl,o.ba,o.re]++o.hs++o.ns
noncomputable def Ko (o:Ow) (ub jm:V):List (Str×V):=[("players",.ref o.pl),("instruments",.ref o.ins),("staffs",.ref o.st),("bars",.ref o.ba),("upbeat",ub),("holds",.ref o.ho),("notes",.ref o.no),("repeats",.ref o.re),("jump",jm)]
noncomputable def kS (x:Str):Key:=Sum.inr x
noncomputable def kN (x:Int×Str):List Key:=[Sum.inl x.1,Sum.inr x.2]
noncomputable def JI (x:Str×(Int×Int)×(Int×Int)):Dt:=.tup [dL x.2.1,dL x.2.2]
noncomputable def Ld (x:Str×List Str):Dt:=lG x.2
noncomputable def Le (x:Int×Str):Dt:=.tup [.int x.1,.str x.2]
def bt (H:Hp) (d:α->Dt):List (List α)->List wV->Prop
 | [],as=>as=[]
 | l::r,as=>∃a t vs,as=a::t/\H a=some (.lst vs)/\ar H (l.map d) vs/\bt H d r t
inductive QC (C:wV) (H:Hp) (a:wV) (o:Ow) (u:Option (Int×Int)) (j:Option Jump):Prop
 | mk (ub jm:V) (_:H a=some (.ins C o.dx (Ko o ub jm))) (_:Is H (dO dL u) ub) (_:Is H (dO lH j) jm)
inductive JU {α:Type} (H:Hp) (d:α->Dt) (a:wV) (l:List α):Prop
 | mk (vs:List V) (_:H a=some (.lst vs)) (_:ar H (l.map d) vs)
inductive Lp {α:Type} (H:Hp) (d:Str×α->Dt) (a:wV) (l:List (Str×α)):Prop
 | mk (vs:List V) (_:H a=some (.dK ((l.map λx=>kS x.1).zip vs))) (_:ar H (l.map d) vs)
structure bo (C:wV) (H:Hp) (a:wV) (S:cF) (o:Ow):Prop where
 obj:QC C H a o S.aE S.cD
 pl:H o.pl=some (.lst (S.players.map V.str))
 ins:Lp H JI o.ins S.aB
 st:Lp H Ld o.st S.bz
 ba:JU H rN o.ba S.bq
 ho:H o.ho=some (.dK ((S.holds.map λx=>kS x.1).zip (o.hs.map V.ref)))/\bt H Le (S.holds.map (·.2)) o.hs
 no:H o.no=some (.dT ((S.av.map λx=>kN x.1).zip (o.ns.map V.ref)))/\bt H gk (S.av.map (·.2)) o.ns
 re:JU H lg o.re S.repeats
 nd:o.lists.Nodup
 dd:[o.ins,o.st,o.ho].Nodup
theorem bt.mono (s:au H H'):∀{ls:List (List α)} {as:List wV},bt H d ls as->bt H' d ls as
 | [],_,h=>h
 | l::r,_,⟨a,t,vs,e,h1,h2,h3⟩=>{a,t,vs,e,s _ _ h1,h2.mono s,bt.mono s h3}
theorem bo.mono (s:au H H') (h:bo C H a S o):bo C H' a S o where
 obj:=by let⟨ub,jm,h1,h2,h3⟩:=h.obj;exact{ub,jm,s _ _ h1,h2.mono s,h3.mono s}
 pl:=s _ _ h.pl
 ins:=by let⟨vs,h1,h2⟩:=h.ins;exact{vs,s _ _ h1,h2.mono s}
 st:=by let⟨vs,h1,h2⟩:=h.st;exact{vs,s _ _ h1,h2.mono s}
 ba:=by let⟨vs,h1,h2⟩:=h.ba;exact{vs,s _ _ h1,h2.mono s}
 ho:={s _ _ h.ho.1,h.ho.2.mono s}
 no:={s _ _ h.no.1,h.no.2.mono s}
 re:=by let⟨vs,h1,h2⟩:=h.re;exact{vs,s _ _ h1,h2.mono s}
 nd:=h.nd
 dd:=h.dd
def cg (o:Option HO):Prop:=∀vs,o≠some (.tup vs)
mutual
theorem Is.upd (hx:cg (H x)):∀{d:Dt} {v:V},Is H d v->Is (upd H x o) d v
 | .aU,_,h=>by unfold Is at h ⊢;exact h
 | .bl _,_,h=>by unfold Is at h ⊢;exact h
 | .int _,_,h=>by unfold Is at h ⊢;exact h
 | .str _,_,h=>by unfold Is at h ⊢;exact h
 | .tup l,_,h=>by
  unfold Is at h ⊢;let⟨a,vs,e,ha,hl⟩:=h;let ne:a≠x:=λz=>hx vs (by rw[<-z];exact ha);exact{a,vs,e,by rw[ao ne];exact ha,ar.upd hx hl}
theorem ar.upd (hx:cg (H x)):∀{l:List Dt} {vs:List V},ar H l vs->ar (L2.upd H x o) l vs
 | [],_,h=>by unfold ar at h ⊢;exact h
 | d::l,_,h=>by
  unfold ar at h ⊢;let⟨v,r,e,hv,hr⟩:=h;exact{v,r,e,Is.upd hx hv,ar.upd hx hr}
end
theorem bt.upd (hx:cg (H x)):∀{ls:List (List α)} {as:List wV},x∉as->bt H d ls as->bt (L2.upd H x o) d ls as
 | [],_,_,h=>h
 | l::r,_,nx,⟨a,t,vs,e,h1,h2,h3⟩=>by
  subst e;let ne:a≠x:=λz=>nx (by rw[z];exact zk);exact{a,t,vs,rfl,by rw[ao ne];exact h1,ar.upd hx h2,bt.upd hx (λz=>nx (zj _ z)) h3}
structure Cf (K:yr) (C:wV):Prop where
 cls:Lq K C
 players:b5 K C "players"
 aB:b5 K C "instruments"
 bz:b5 K C "staffs"
 bq:b5 K C "bars"
 aE:b5 K C "upbeat"
 holds:b5 K C "holds"
 av:b5 K C "notes"
 repeats:b5 K C "repeats"
 cD:b5 K C "jump"
def K9 (n:Nat):NumText.digitsVal (dec (n:Int)).cps.toList=n:=by rw[pR];exact PySem.W.KIN.val_back n
def Mx {most:Int} {n k:Nat} (hk:0<k) (hm:(k:Int)<=most) (h:n<10^k):rn most (dec (n:Int)).cps.toList=some (n:Int):=by
 let l1:=CW (n:=n);let l2:=vh hk h;let el:⇑(dec (n:Int)).cps.toList=⇑(dec (n:Int)):=yH;let ha:((dec (n:Int)).cps.toList.all λc=>decide (c∈pB))=true:=yf.mpr λc hc=>zd (Nf (iF hc).1 (iF hc).2);unfold rn;rw[yE (),yE (),yF ha,yE,K9];rintro⟨z1,z2⟩;have:=G0 (n:=n) (by rw[<-yY];exact z1);ext
def kA {most n:Int} {k:Nat} (hk:0<k) (hm:(k:Int)<=most) (h0:0<=n) (h:n<10^k):rn most (dec n).cps.toList=some n:=by
 let⟨m,rfl⟩:=yC h0;exact Mx hk hm (by exact_mod_cast h)
def dB {n:Int} (h0:0<=n) (h:n<1000):dN (dec n)=some n:=kA (k:=3) ∅ ∅ h0 ()
def uG (h0:0<=n) (h:n<1000) (h1:lo<=n) (h2:n<=hi):jj (dec n) lo hi=some n:=by
 unfold jj;rw[dB h0 h];dsimp only;rw[yE (),yE ()]
def D8 {most n:Int} {k:Nat} (hk:0<k) (hm:(k:Int)<=most) (h1:-(10^k)<n) (h2:n<10^k):rs most (dec n)=some n:=by
 unfold rs
 by_cases h0:0<=n
 ·rw[yE,kA hk hm h0 h2]
  intro z;let⟨m,rfl⟩:=yC h0;have:=iF (zy z);ext
 ·let e:(dec n).cps.toList=45::(dec (-n)).cps.toList:=by rw[pQ (),b3];rfl
  rw[e,yF (show(45::(dec (-n)).cps.toList)[0]?=some 45 from rfl)];show(match rn most (dec (-n)).cps.toList with | some n=>if n=0 then none else some (-n) | none=>none)=_;rw[kA hk hm () ()];dsimp only;rw[yE (),Int.neg_neg]
def Ia {q:Int×Int} (h:Ny q):rp (dec q.1) (dec q.2)=some q:=by
 let⟨h1,h2,h3,h4,h5⟩:=h;unfold rp;rw[D8 (k:=2) ∅ ∅ () (),D8 (k:=2) ∅ ∅ () ()];dsimp only;rw[yF h5]
def CZ (n:Int):47∉(dec n).cps.toList:=d8 ∅ ∅
def FU (n:Int):58∉(dec n).cps.toList:=d8 ∅ ∅
def CC {x:Int×Int} (h:Rd x) (h1:x.1<10000) (h2:x.2<10000):JZ (cR x)=some x:=by
 let⟨p1,p2,p3⟩:=h.pos;unfold cR JZ
 by_cases c:x.2=1
 ·rw[yF c,show Txt.split (dec x.1) "/"= [dec x.1] from split1 (c:=47) (CZ _)]
  dsimp only;rw[kA (k:=4) ∅ ∅ p1 ()];dsimp only;rw[<-c,p3]
 ·rw[yE c,show Txt.split (dec x.1 ++"/" ++ dec x.2) "/"= [dec x.1,dec x.2] from vM (c:=47) (CZ _) (CZ _)]
  dsimp only;rw[kA (k:=4) ∅ ∅ p1 (),kA (k:=4) ∅ ∅ () ()];dsimp only;rw[yE (),p3]
def Ay (h:ow x):lr (cR x)=some x:=by
 let⟨h1,h2,h3,h4⟩:=h;unfold lr;rw[CC h1 h3 h4];dsimp only;rw[yE ()]
def KZ (h:pJ it):ir (kX it)=some it:=by
 let⟨o,x⟩:=it;let⟨h1,h2⟩:=h;cases o with
 | none=>
  let e:Txt.split (kX (none,x)) ":"= [("r": Str),cR x]:=vM (c:=58) (a:="r") ∅ (uQ h1);unfold ir;rw[e];show(match lr (cR x) with | none=>none | some x=>_)=_;rw[Ay h1];exact yF rfl
 | some q=>
  let e:Txt.split (kX (some q,x)) ":"= [dec q.1,dec q.2,cR x]:=Ms (c:=58) (FU _) (FU _) (uQ h1);unfold ir;rw[e];show(match lr (cR x) with | none=>none | some x=>_)=_;rw[Ay h1];dsimp only;rw[yE (by simp)];show(match rp (dec q.1) (dec q.2) with | some q=>some (some q,x) | none=>none)=_;rw[Ia (h2 q rfl)]
def D9 (h1:1<=a) (h2:a<=32) (h3:b∈A9):fZ (dec a ++"/" ++ dec b)=some (a,b):=by
 let hb:0<=b/\b<1000:=by
  unfold A9 at h3;simp at h3;ext
 unfold fZ;rw[show Txt.split (dec a ++"/" ++ dec b) "/"= [dec a,dec b] from vM (c:=47) (CZ _) (CZ _)];dsimp only;rw[uG () () h1 h2,dB hb.1 hb.2];dsimp only;rw[yF h3]
def Ie {k:Int} (h1:-7<=k) (h2:k<=7):B3 (dec k)=some k:=by
 unfold B3;rw[D8 (k:=3) ∅ ∅ () ()];dsimp only;rw[yE (by split <;> ext)]
def Gx (h:Ny q) (h1:-12<=q.1) (h2:q.1<=12):qB (dec q.1) (dec q.2)=some q:=by
 unfold qB;rw[Ia h];dsimp only;rw[yE (by split <;> ext)]
theorem ko:∀{l:List α},(∀x∈l,f (g x)=some x)->kr ((l.map g).map f)=some l
 | [],_=>rfl
 | x::l,h=>by
  rw[zf,zf,h x zk];unfold kr;rw[ko λy hy=>h y (zj _ hy)]
noncomputable def GW (e:End):Str:=dec e.1 ++":" ++ Str.join "," (e.2.map dec)
def QG (e:End):Prop:=0<=e.1/\e.1<1000/\e.2≠[]/\∀p∈e.2,0<=p/\p<1000
theorem kK (hs:c∉sep.cps.toList):∀{zs:List Str},(∀z∈zs,c∉z.cps.toList)->c∉(Str.join sep zs).cps.toList
 | [],_=>by show c∉("": Str).cps.toList;exact zB
 | [z],h=>h z zk
 | z::y::r,h=>by
  rw[dQ,b3,b3];intro m;rcases zD.mp m with m | m
  ·rcases zD.mp m with m | m
   ·exact h z zk m
   ·exact hs m
  ·exact kK hs (λx hx=>h x (zj _ hx)) m
def Ii (h:QG e):qD (GW e)=some e:=by
 let⟨h1,h2,h3,h4⟩:=h;let f:58∉(Str.join "," (e.2.map dec)).cps.toList:=kK ∅ λz hz=>by
  let⟨y,_,rfl⟩:=zE.mp hz;exact FU _
 unfold qD GW;rw[show Txt.split (dec e.1 ++":" ++ Str.join "," (e.2.map dec)) ":"= [dec e.1,Str.join "," (e.2.map dec)] from vM (c:=58) (FU _) f];dsimp only;rw[show Txt.split (Str.join "," (e.2.map dec)) ","= e.2.map dec from eJ (c:=44) (by simpa using h3) λz hz=>by
  let⟨y,_,rfl⟩:=zE.mp hz;exact d8 ∅ ∅]
 rw[dB h1 h2,ko λx hx=>dB (h4 x hx).1 (h4 x hx).2]
def Hj (w:Str):Prop:=w≠ ""/\32∉w.cps.toList/\10∉w.cps.toList
def DH (ne:ws≠[]) (h:∀w∈ws,Hj w):words (Str.join " " ws)=ws:=by
 unfold words;rw[show Txt.split (Str.join " " ws) " "= ws from eJ (c:=32) ne λw hw=>(h w hw).2.1];exact List.filter_eq_self.mpr λw hw=>zd (h w hw).1
def dR (n:Int):Hj (dec n):=by
 refine{λz=>?_,d8 ∅ ∅,d8 ∅ ∅}
 by_cases h:0<=n
 ·let⟨m,rfl⟩:=yC h
  have:=CW (n:=m);rw[z] at this;exact absurd this ∅
 ·let e:(dec n).cps.toList=45::(dec (-n)).cps.toList:=by rw[pQ (),b3];rfl
  rw[z] at e;cases e
def Dj (ha:Hj a) (hb1:32∉b.cps.toList) (hb2:10∉b.cps.toList):Hj (a++b):=by
 refine{λz=>ha.1 (iO ?_),λm=>?_,λm=>?_}
 ·let e:(a++b).cps.toList=("": Str).cps.toList:=by rw[z]
  rw[b3] at e;exact(List.append_eq_nil_iff.mp e).1
 ·rw[b3] at m
  rcases zD.mp m with m | m
  ·exact ha.2.1 m
  ·exact hb1 m
 ·rw[b3] at m
  rcases zD.mp m with m | m
  ·exact ha.2.2 m
  ·exact hb2 m
def Bd (ha:Hj a) (hb1:32∉b.cps.toList) (hb2:10∉b.cps.toList) (hc:Hj c):Hj (a++b++c):=Dj (Dj ha hb1 hb2) hc.2.1 hc.2.2
def qY (x:Int×Int):Hj (cR x):=by
 unfold cR;split
 ·exact dR _
 ·exact Bd (dR _) ∅ ∅ (dR _)
def M6 (it:Item):Hj (kX it):=by
 let⟨o,x⟩:=it;cases o with
 | none=>exact Dj (a:="r:") {∅,∅,∅} (qY x).2.1 (qY x).2.2
 | some q=>exact Bd (Bd (dR _) ∅ ∅ (dR _)) ∅ ∅ (qY x)
def Nm (e:End):Hj (GW e):=by
 let f:∀c,c≠44->c≠45->¬(48<=c/\c<=57)->c∉(Str.join "," (e.2.map dec)).cps.toList:=λc h0 h1 h2=>kK (by show c∉[44];simpa using h0) λz hz=>by
  let⟨y,_,rfl⟩:=zE.mp hz;exact d8 h1 h2
 unfold GW;exact Dj (Dj (dR _) ∅ ∅) (f 32 ∅ ∅ ∅) (f 10 ∅ ∅ ∅)
def dk (n:Str):Prop:=bM n=some n
def dk.w (h:dk n):Hj n:=by
 unfold dk bM at h;split at h
 ·cases h
 ·split at h
  ·cases h
  ·split at h
   ·rename_i h1 _ h3
    let hs:∀c,c∉sgn->c∉n.cps.toList:=λc hc m=>hc (zX (yf.mp h3 c m));refine{λz=>h1 (by rw[z];decide),hs 32 ∅,hs 10 ∅}
   ·cases h
noncomputable def ctxt:Option Int->Str
 | none=> "end"
 | some n=>dec n
noncomputable def wordsOf:Told->List Str
 | .aZ n=>["player",n]
 | .cO n t l=>["instrument",n,dec t.1,dec t.2,cR l]
 | .cz n ps=> "staff":: n::ps
 | .bar b=> "bar":: (dec b.bc.1 ++"/" ++ dec b.bc.2)::dec b.key::b.marks
 | .aE l=>["upbeat",cR l]
 | .holds p b i=>["holds",p,dec b,i]
 | .av b p its=> "notes":: dec b::p::its.map kX
 | .rep r=> "repeat":: dec r.first::dec r.last::dec r.times::r.ends.map GW
 | .cD j=>["jump",dec j.CG,dec j.Et,dec j.dG,ctxt j.mf]
noncomputable def rowOf (t:Told):Str:=Str.join " " (wordsOf t)
def NB (n:Int):Prop:=0<=n/\n<1000
def NL:Told->Prop
 | .aZ n=>dk n
 | .cO n t l=>dk n/\Ny t/\-12<=t.1/\t.1<=12/\Lm.Rd l/\l.1<10000/\l.2<10000
 | .cz n ps=>dk n/\ps≠[]/\∀p∈ps,dk p
 | .bar b=>1<=b.bc.1/\b.bc.1<=32/\b.bc.2∈A9/\-7<=b.key/\b.key<=7/\∀m∈b.marks,dk m
 | .aE l=>ow l
 | .holds p b i=>dk p/\NB b/\dk i
 | .av b p its=>NB b/\dk p/\(∀it∈its,pJ it)/\its.all (λit=>it.1.isNone)=false
 | .rep r=>NB r.first/\NB r.last/\2<=r.times/\r.times<=9/\∀e∈r.ends,QG e
 | .cD j=>NB j.CG/\NB j.Et/\NB j.dG/\∀c,j.mf=some c->NB c
def F4 (h:∀p∈l,dk p):kr (l.map bM)=some l:=by
 have:=ko (f:=bM) (g:=λx:Str=>x) (l:=l) h
 rwa [List.map_id'] at this
def qI (h:NL t):gC (wordsOf t)=some t:=by
 cases t with
 | aZ n=>
  show(bM n).map Told.aZ=_;rw[show bM n=some n from h];rfl
 | cO n t l=>
  let⟨h1,h2,h3,h4,h5,h6,h7⟩:=h;show(iV [n,dec t.1,dec t.2,cR l]).map (λx=>Told.cO x.1 x.2.1 x.2.2)=_;unfold iV;dsimp only;rw[show bM n=some n from h1,Gx h2 h3 h4,CC h5 h6 h7];rfl
 | cz n ps=>
  let⟨h1,h2,h3⟩:=h;show(lV (n::ps)).map (λx=>Told.cz x.1 x.2)=_;let⟨b,r,rfl⟩:=List.exists_cons_of_ne_nil h2;rw[lU,F4 (l:=n::b::r) λp hp=>by
   rcases zA.mp hp with e | e
   ·rw[e];exact h1
   ·exact h3 p e]
  rfl
 | bar b=>
  let⟨h1,h2,h3,h4,h5,h6⟩:=h;show(sZ ((dec b.bc.1 ++"/" ++ dec b.bc.2)::dec b.key::b.marks)).map Told.bar=_;unfold sZ;dsimp only;rw[F4 h6,D9 h1 h2 h3,Ie h4 h5];rfl
 | aE l=>
  show(lr (cR l)).map Told.aE=_;rw[Ay h];rfl
 | holds p b i=>
  let⟨h1,h2,h3⟩:=h;show(mH [p,dec b,i]).map (λx=>Told.holds x.1 x.2.1 x.2.2)=_;unfold mH;dsimp only;rw[show bM p=some p from h1,dB h2.1 h2.2,show bM i=some i from h3];rfl
 | av b p its=>
  let⟨h1,h2,h3,h4⟩:=h;show(g9 (dec b::p::its.map kX)).map (λx=>Told.av x.1 x.2.1 x.2.2)=_;cases its with
  | nil=>cases h4
  | cons i r=>
   show(g9 (dec b::p::kX i::r.map kX)).map _=_;unfold g9;let e:=ko (f:=ir) (g:=kX) (l:=i::r) λx hx=>KZ (h3 x hx);rw[zf] at e;dsimp only;rw[e];dsimp only;rw[h4,dB h1.1 h1.2,show bM p=some p from h2];rfl
 | rep r=>
  let⟨h1,h2,h3,h4,h5⟩:=h;show(gD (dec r.first::dec r.last::dec r.times::r.ends.map GW)).map Told.rep=_;unfold gD;dsimp only;rw[ko λx hx=>Ii (h5 x hx),dB h1.1 h1.2,dB h2.1 h2.2,uG () () h3 h4];rfl
 | cD j=>
  let⟨h1,h2,h3,h4⟩:=h;show(oJ [dec j.CG,dec j.Et,dec j.dG,ctxt j.mf]).map Told.cD=_;unfold oJ;dsimp only;rw[dB h1.1 h1.2,dB h2.1 h2.2,dB h3.1 h3.2];let⟨a,b,c,d⟩:=j;cases d with
  | none=>rfl
  | some n=>
   dsimp only[ctxt];rw[dB (h4 n rfl).1 (h4 n rfl).2];rfl
def Fg (h:NL t):∀w∈wordsOf t,Hj w:=by
 let lit:∀s:Str,s≠ ""->32∉s.cps.toList->10∉s.cps.toList->Hj s:=λs a b c=>{(a),b,c}
 cases t with
 | aZ n=>
  intro w hw;simp only[wordsOf,zA,zB,yL] at hw;rcases hw with rfl | rfl
  ·exact lit _ ∅ ∅ ∅
  ·exact dk.w h
 | cO n t l=>
  intro w hw;simp only[wordsOf,zA,zB,yL] at hw;rcases hw with rfl | rfl | rfl | rfl | rfl
  ·exact lit _ ∅ ∅ ∅
  ·exact dk.w h.1
  ·exact dR _
  ·exact dR _
  ·exact qY _
 | cz n ps=>
  intro w hw;simp only[wordsOf,zA] at hw;rcases hw with rfl | rfl | hw
  ·exact lit _ ∅ ∅ ∅
  ·exact dk.w h.1
  ·exact dk.w (h.2.2 _ hw)
 | bar b=>
  intro w hw;simp only[wordsOf,zA] at hw;rcases hw with rfl | rfl | rfl | hw
  ·exact lit _ ∅ ∅ ∅
  ·exact Bd (dR _) ∅ ∅ (dR _)
  ·exact dR _
  ·exact dk.w (h.2.2.2.2.2 _ hw)
 | aE l=>
  intro w hw;simp only[wordsOf,zA,zB,yL] at hw;rcases hw with rfl | rfl
  ·exact lit _ ∅ ∅ ∅
  ·exact qY _
 | holds p b i=>
  intro w hw;simp only[wordsOf,zA,zB,yL] at hw;rcases hw with rfl | rfl | rfl | rfl
  ·exact lit _ ∅ ∅ ∅
  ·exact dk.w h.1
  ·exact dR _
  ·exact dk.w h.2.2
 | av b p its=>
  intro w hw;simp only[wordsOf,zA,zE] at hw;rcases hw with rfl | rfl | rfl | ⟨x,_,rfl⟩
  ·exact lit _ ∅ ∅ ∅
  ·exact dR _
  ·exact dk.w h.2.1
  ·exact M6 _
 | rep r=>
  intro w hw;simp only[wordsOf,zA,zE] at hw;rcases hw with rfl | rfl | rfl | rfl | ⟨x,_,rfl⟩
  ·exact lit _ ∅ ∅ ∅
  ·exact dR _
  ·exact dR _
  ·exact dR _
  ·exact Nm _
 | cD j=>
  intro w hw;simp only[wordsOf,zA,zB,yL] at hw;rcases hw with rfl | rfl | rfl | rfl | rfl
  ·exact lit _ ∅ ∅ ∅
  ·exact dR _
  ·exact dR _
  ·exact dR _
  ·unfold ctxt
   cases j.mf with
   | none=>exact lit _ ∅ ∅ ∅
   | some n=>exact dR _
def DI (t:Told):wordsOf t≠[]:=by cases t <;> simp[wordsOf]
def uI (h:NL t):words (rowOf t)=wordsOf t:=DH (DI t) (Fg h)
def B2 (h:NL t):10∉(rowOf t).cps.toList:=kK ∅ λw hw=>(Fg h w hw).2.2
noncomputable def kindOf:HO->Nat
 | .lst _=>0
 | .tup _=>1
 | .ins _ _ _=>2
 | .dK _=>3
 | .dT _=>4
 | _=>5
def aJ {H:Hp} {a b:wV} {u v:HO} (h1:H a=some u) (h2:H b=some v) (k:kindOf u≠kindOf v):a≠b:=λz=>by
 rw[z,h2] at h1;cases h1;exact k rfl
noncomputable def own (a:wV) (o:Ow):List wV:=[a,o.pl,o.ins,o.st,o.ba,o.ho,o.no,o.re]++o.hs++o.ns
def pK (L:List wV) (H H':Hp):Prop:=∀b u,b∉L->H b=some u->H' b=some u
def pK.of (s:au H H'):pK L H H':=λb u _ h=>s b u h
def pK.trans (s:pK L H H') (t:pK L H' H''):pK L H H'':=λb u n h=>t b u n (s b u n h)
theorem pK.upd (h:x∈L):pK L H (L2.upd H x o):=λb u n e=>by
 rw[ao (λz=>n (by rw[z];exact h))];exact e
structure Nd (o:Ow):Prop where
 pb:o.pl≠o.ba
 pr:o.pl≠o.re
 ph:o.pl∉o.hs
 pn:o.pl∉o.ns
 br:o.ba≠o.re
 bh:o.ba∉o.hs
 bn:o.ba∉o.ns
 rh:o.re∉o.hs
 rn:o.re∉o.ns
 hh:o.hs.Nodup
 nn:o.ns.Nodup
 hn:∀x∈o.hs,x∉o.ns
def Nd.of (h:o.lists.Nodup):Nd o:=by
 unfold Ow.lists at h;rw[zP] at h;let⟨h1,h2,h3⟩:=h;rw[zP] at h1;let⟨h4,h5,h6⟩:=h1;simp only[zW,zA,zB,yL,not_or] at h4;refine{h4.1.1,h4.1.2,λz=>?_,λz=>?_,h4.2.1,λz=>?_,λz=>?_,λz=>?_,λz=>?_,h5,h2,λx hx z=>?_}
 ·exact h6 o.pl (by simp) o.pl z rfl
 ·exact h3 o.pl (by simp) o.pl z rfl
 ·exact h6 o.ba (by simp) o.ba z rfl
 ·exact h3 o.ba (by simp) o.ba z rfl
 ·exact h6 o.re (by simp) o.re z rfl
 ·exact h3 o.re (by simp) o.re z rfl
 ·exact h3 x (by simp[hx]) x z rfl
def Nd.to (h:Nd o):o.lists.Nodup:=by
 unfold Ow.lists;rw[zP];refine{?_,h.nn,?_}
 ·rw[zP]
  refine{?_,h.hh,?_}
  ·simp only[zW,zA,zB,yL,not_or]
   exact{{(h.pb),h.pr},h.br,λz=>z,xJ}
  ·intro x hx y hy e
   subst e;simp only[zA,zB,yL] at hx;rcases hx with rfl | rfl | rfl
   ·exact h.ph hy
   ·exact h.bh hy
   ·exact h.rh hy
 ·intro x hx y hy e
  subst e;rw[zD] at hx;rcases hx with hx | hx
  ·simp only[zA,zB,yL] at hx
   rcases hx with rfl | rfl | rfl
   ·exact h.pn hy
   ·exact h.bn hy
   ·exact h.rn hy
  ·exact h.hn x hx hy
section
variable {C a x:wV} {H:Hp} {S:cF} {o:Ow} {u:HO}
def bo.uO (h:bo C H a S o) (nx:cg (H x)) (n:a≠x):QC C (L2.upd H x u) a o S.aE S.cD:=by
 let⟨ub,jm,h1,h2,h3⟩:=h.obj;exact{ub,jm,by rw[ao n];exact h1,Is.upd nx h2,Is.upd nx h3}
def bo.Ad (h:bo C H a S o) (n:o.pl≠x):L2.upd H x u o.pl=some (.lst (S.players.map V.str)):=by rw[ao n];exact h.pl
def bo.mW (h:bo C H a S o) (nx:cg (H x)) (n:o.ins≠x):Lp (L2.upd H x u) JI o.ins S.aB:=by
 let⟨vs,h1,h2⟩:=h.ins;exact{vs,by rw[ao n];exact h1,ar.upd nx h2}
def bo.vK (h:bo C H a S o) (nx:cg (H x)) (n:o.st≠x):Lp (L2.upd H x u) Ld o.st S.bz:=by
 let⟨vs,h1,h2⟩:=h.st;exact{vs,by rw[ao n];exact h1,ar.upd nx h2}
def bo.Ba (h:bo C H a S o) (nx:cg (H x)) (n:o.ba≠x):JU (L2.upd H x u) rN o.ba S.bq:=by
 let⟨vs,h1,h2⟩:=h.ba;exact{vs,by rw[ao n];exact h1,ar.upd nx h2}
def bo.w9 (h:bo C H a S o) (nx:cg (H x)) (n:o.re≠x):JU (L2.upd H x u) lg o.re S.repeats:=by
 let⟨vs,h1,h2⟩:=h.re;exact{vs,by rw[ao n];exact h1,ar.upd nx h2}
def bo.CI (h:bo C H a S o) (nx:cg (H x)) (n:o.ho≠x) (nn:x∉o.hs):L2.upd H x u o.ho=some (.dK ((S.holds.map λx=>kS x.1).zip (o.hs.map V.ref)))/\bt (L2.upd H x u) Le (S.holds.map (·.2)) o.hs:=
 {by rw[ao n];exact h.ho.1,bt.upd nx nn h.ho.2}
def bo.Ar (h:bo C H a S o) (nx:cg (H x)) (n:o.no≠x) (nn:x∉o.ns):L2.upd H x u o.no=some (.dT ((S.av.map λx=>kN x.1).zip (o.ns.map V.ref)))/\bt (L2.upd H x u) gk (S.av.map (·.2)) o.ns:=
 {by rw[ao n];exact h.no.1,bt.upd nx nn h.no.2}
end
theorem bC:∀{ls:List (List α)} {as:List wV},bt H d ls as->x∈as->∃vs,H x=some (.lst vs)
 | [],_,h,hx=>by unfold bt at h;subst h;simp at hx
 | l::r,_,⟨a,t,vs,e,h1,_,h3⟩,hx=>by
  subst e;rcases zA.mp hx with rfl | hx
  ·exact{(vs),h1}
  ·exact bC h3 hx
theorem bt.snoc (hx:H x=some (.lst vs)) (im:ar H (m.map d) vs):∀{ls:List (List α)} {as:List wV},bt H d ls as->bt H d (ls++[m]) (as++[x])
 | [],_,h=>by unfold bt at h;subst h;exact{x,[],vs,rfl,hx,im,rfl}
 | l::r,_,⟨a,t,vs',e,h1,h2,h3⟩=>by
  subst e;exact{a,t++[x],vs',rfl,h1,h2,bt.snoc hx im h3}
def Hy (h:l.length=m.length) (x:α) (y:β):(l++[x]).zip (m++[y])=l.zip m++[(x,y)]:=by
 rw[List.zip_append h];rfl
def mI {κ:Type} [DecidableEq κ] {ks:List κ} {vs:List V} (hl:⇑ks=⇑vs) {k:κ} {v:V} (h:cS (ks.zip vs) k=none):putK (ks.zip vs) k v=(ks++[k]).zip (vs++[v]):=by
 rw[Hy hl];exact Iw v h
theorem uX (p:Str):∀{hs:List (Str×List α)} {as:List wV},bt H d (hs.map (·.2)) as->as.Nodup->(hs.map (·.1)).Nodup->p∈hs.map (·.1)->
  ∃x vs,cS ((hs.map λx=>kS x.1).zip (as.map V.ref)) (kS p)=some (.ref x)/\x∈as/\H x=some (.lst vs)/\∀y e,Is (L2.upd H x (.lst (vs++[y]))) (d e) y->
   bt (L2.upd H x (.lst (vs++[y]))) d ((hs.map λq=>if q.1=p then(q.1,q.2++[e]) else q).map (·.2)) as
 | [],_,_,_,_,h=>by simp at h
 | (k,l)::r,_,hL,na,nk,hm=>by
  rw[zf] at hL;let⟨a,t,vs,rfl,h1,h2,h3⟩:=hL;rw[zf,zW] at nk;rw[zW] at na
  by_cases e:k=p
  ·subst e
   refine{a,vs,?_,zk,h1,λy e iy=>?_}
   ·rw[zf,zf,yN]
    unfold cS;rw[yJ];simp
   ·let nx:cg (H a):=by rw[h1];exact λ_ z=>by cases z
    let er:(r.map λq=>if q.1=k then(q.1,q.2++[e]) else q)=r:=by
     conv=>rhs;rw[<-List.map_id r]
     refine xg λq hq=>?_;rw[yE (λz=>nk.1 (by rw[show(k,l).1=q.1 from z.symm];exact zM (f:=λx:Str×List α=>x.1) hq))];rfl
    rw[zf,zf,yF rfl,er];refine{a,t,vs++[y],rfl,aA,?_,bt.upd nx na.1 h3};rw[zg];exact fg iy (ar.upd nx h2)
  ·let hm':p∈r.map (·.1):=by
    rcases zA.mp hm with z | z
    ·exact absurd z.symm e
    ·exact z
   let⟨x,vs',e1,e2,e3,e4⟩:=uX p h3 na.2 nk.2 hm';refine{x,vs',?_,zj _ e2,e3,λy e iy=>?_}
   ·let e':¬kS k=kS p:=λz=>e (wu z)
    rw[zf,zf,yN];unfold cS at e1 ⊢;rw[yJ];simp only[e',decide_false];exact e1
   ·let nx:cg (H x):=by rw[e3];exact λ_ z=>by cases z
    rw[zf,zf,yE (by assumption)];refine{a,t,vs,rfl,?_,ar.upd nx h2,e4 y e iy};rw[ao (λz=>na.1 (by rw[z];exact e2))];exact h1
section
variable {C a:wV} {H:Hp} {S:cF} {o:Ow}
def bo.E1 (h:bo C H a S o) (n:Str):bo C (L2.upd H o.pl (.lst (S.players.map V.str++[.str n]))) a (bJ S (.aZ n)) o:=by
 let d:=Nd.of h.nd;let hp:=h.pl;let nx:cg (H o.pl):=by rw[hp];exact λ_ z=>by cases z
 let⟨_,_,ha,_⟩:=h.obj;let⟨_,hi,_⟩:=h.ins;let⟨_,hs,_⟩:=h.st;exact{h.uO nx (aJ ha hp (by simp[kindOf])),by rw[aA];show _=some (HO.lst ((S.players++[n]).map V.str));rw[zg];rfl,h.mW nx (aJ hi hp (by simp[kindOf])),h.vK nx (aJ hs hp (by simp[kindOf])),h.Ba nx d.pb.symm,
  h.CI nx (aJ h.ho.1 hp (by simp[kindOf])) d.ph,h.Ar nx (aJ h.no.1 hp (by simp[kindOf])) d.pn,h.w9 nx d.pr.symm,h.nd,h.dd}
def bo.Lh (h:bo C H a S o) {b:Lu} {v:V} {vs:List V} (hb:H o.ba=some (.lst vs)) (il:ar H (S.bq.map rN) vs) (iv:Is H (rN b) v):bo C (L2.upd H o.ba (.lst (vs++[v]))) a (bJ S (.bar b)) o:=by
 let d:=Nd.of h.nd;let nx:cg (H o.ba):=by rw[hb];exact λ_ z=>by cases z
 let⟨_,_,ha,_⟩:=h.obj;let⟨_,hi,_⟩:=h.ins;let⟨_,hs,_⟩:=h.st;refine{h.uO nx (aJ ha hb (by simp[kindOf])),h.Ad d.pb,h.mW nx (aJ hi hb (by simp[kindOf])),h.vK nx (aJ hs hb (by simp[kindOf])),{_,aA,?_},
  h.CI nx (aJ h.ho.1 hb (by simp[kindOf])) d.bh,h.Ar nx (aJ h.no.1 hb (by simp[kindOf])) d.bn,h.w9 nx d.br.symm,h.nd,h.dd}
 show ar _ ((S.bq++[b]).map rN) _;rw[zg];exact fg (Is.upd nx iv) (ar.upd nx il)
def bo.Lf (h:bo C H a S o) {r:Rep} {v:V} {vs:List V} (hb:H o.re=some (.lst vs)) (il:ar H (S.repeats.map lg) vs) (iv:Is H (lg r) v):bo C (L2.upd H o.re (.lst (vs++[v]))) a (bJ S (.rep r)) o:=by
 let d:=Nd.of h.nd;let nx:cg (H o.re):=by rw[hb];exact λ_ z=>by cases z
 let⟨_,_,ha,_⟩:=h.obj;let⟨_,hi,_⟩:=h.ins;let⟨_,hs,_⟩:=h.st;refine{h.uO nx (aJ ha hb (by simp[kindOf])),h.Ad d.pr,h.mW nx (aJ hi hb (by simp[kindOf])),h.vK nx (aJ hs hb (by simp[kindOf])),h.Ba nx d.br,
  h.CI nx (aJ h.ho.1 hb (by simp[kindOf])) d.rh,h.Ar nx (aJ h.no.1 hb (by simp[kindOf])) d.rn,{_,aA,?_},h.nd,h.dd}
 show ar _ ((S.repeats++[r]).map lg) _;rw[zg];exact fg (Is.upd nx iv) (ar.upd nx il)
def pT {n:Str} {ks:List Str} {vs:List V} (h:n∉ks):cS ((ks.map kS).zip vs) (kS n)=none:=by
 unfold cS;rw[Option.map_eq_none_iff,xB];intro x hx z;let e:=zX z;let m:=(xV hx).1;let⟨k,hk,ek⟩:=zE.mp m;rw[<-ek] at e;exact h ((wu e)▸hk)
def JG (h:[o.ins,o.st,o.ho].Nodup):o.ins≠o.st/\o.ins≠o.ho/\o.st≠o.ho:=by
 simp only[zW,zA,zB,yL,not_or] at h;exact{(h.1.1),h.1.2,h.2.1}
def bo.Hf (h:bo C H a S o) {n:Str} {t l:Int×Int} {p:wV} {vs:List V} (hb:H o.ins=some (.dK ((S.aB.map λx=>kS x.1).zip vs))) (il:ar H (S.aB.map JI) vs) (iv:Is H (JI (n,t,l)) (.ref p))
  (fr:n∉S.aB.map (·.1)):bo C (L2.upd H o.ins (.dK (putK ((S.aB.map λx=>kS x.1).zip vs) (kS n) (.ref p)))) a (bJ S (.cO n t l)) o:=by
 let d:=Nd.of h.nd;let⟨d1,d2,d3⟩:=JG h.dd;let nx:cg (H o.ins):=by rw[hb];exact λ_ z=>by cases z
 let⟨_,_,ha,_⟩:=h.obj;let⟨_,hba,_⟩:=h.ba;let⟨_,hre,_⟩:=h.re;let vl:=aI il;let em:(S.aB.map λx=>kS x.1)=(S.aB.map (·.1)).map kS:=by rw[zw];rfl
 let hns:o.ins∉o.ns:=λz=>by
  let⟨_,q⟩:=bC h.no.2 z;rw[hb] at q;cases q
 let hhs:o.ins∉o.hs:=λz=>by
  let⟨_,q⟩:=bC h.ho.2 z;rw[hb] at q;cases q
 refine{h.uO nx (aJ ha hb (by simp[kindOf])),h.Ad (aJ h.pl hb (by simp[kindOf])),{vs++[.ref p],?_,?_},h.vK nx d1.symm,h.Ba nx (aJ hba hb (by simp[kindOf])),
  h.CI nx d2.symm hhs,h.Ar nx (aJ h.no.1 hb (by simp[kindOf])) hns,h.w9 nx (aJ hre hb (by simp[kindOf])),h.nd,h.dd}
 ·rw[aA,mI (by rw[za];exact vl.symm) (by rw[em];exact pT fr)]
  show _=some (HO.dK (((S.aB++[(n,t,l)]).map λx=>kS x.1).zip (vs++[.ref p])));rw[zg];rfl
 ·show ar _ ((S.aB++[(n,t,l)]).map JI) _
  rw[zg];exact fg (Is.upd nx iv) (ar.upd nx il)
def bo.Hd (h:bo C H a S o) {n:Str} {ps:List Str} {v:V} {vs:List V} (hb:H o.st=some (.dK ((S.bz.map λx=>kS x.1).zip vs))) (il:ar H (S.bz.map Ld) vs) (iv:Is H (Ld (n,ps)) v)
  (fr:n∉S.bz.map (·.1)):bo C (L2.upd H o.st (.dK (putK ((S.bz.map λx=>kS x.1).zip vs) (kS n) v))) a (bJ S (.cz n ps)) o:=by
 let d:=Nd.of h.nd;let⟨d1,d2,d3⟩:=JG h.dd;let nx:cg (H o.st):=by rw[hb];exact λ_ z=>by cases z
 let⟨_,_,ha,_⟩:=h.obj;let⟨_,hba,_⟩:=h.ba;let⟨_,hre,_⟩:=h.re;let vl:=aI il;let em:(S.bz.map λx=>kS x.1)=(S.bz.map (·.1)).map kS:=by rw[zw];rfl
 let hns:o.st∉o.ns:=λz=>by
  let⟨_,q⟩:=bC h.no.2 z;rw[hb] at q;cases q
 let hhs:o.st∉o.hs:=λz=>by
  let⟨_,q⟩:=bC h.ho.2 z;rw[hb] at q;cases q
 refine{h.uO nx (aJ ha hb (by simp[kindOf])),h.Ad (aJ h.pl hb (by simp[kindOf])),h.mW nx d1,{vs++[v],?_,?_},h.Ba nx (aJ hba hb (by simp[kindOf])),
  h.CI nx d3.symm hhs,h.Ar nx (aJ h.no.1 hb (by simp[kindOf])) hns,h.w9 nx (aJ hre hb (by simp[kindOf])),h.nd,h.dd}
 ·rw[aA,mI (by rw[za];exact vl.symm) (by rw[em];exact pT fr)]
  show _=some (HO.dK (((S.bz++[(n,ps)]).map λx=>kS x.1).zip (vs++[v])));rw[zg];rfl
 ·show ar _ ((S.bz++[(n,ps)]).map Ld) _
  rw[zg];exact fg (Is.upd nx iv) (ar.upd nx il)
def Gb {n:Int×Str} {ks:List (Int×Str)} {vs:List V} (h:n∉ks):cS ((ks.map kN).zip vs) (kN n)=none:=by
 unfold cS;rw[Option.map_eq_none_iff,xB];intro x hx z;let e:=zX z;let m:=(xV hx).1;let⟨k,hk,ek⟩:=zE.mp m;rw[<-ek] at e;unfold kN at e;simp at e;have:k=n:=Prod.ext e.1 e.2;exact h (this▸hk)
def bo.He (h:bo C H a S o) {b:Int} {pn:Str} {its:List Item} {q:wV} {us:List V} (hq:H q=some (.lst us)) (iq:ar H (its.map gk) us) (nq:q∉o.lists) (fr:(b,pn)∉S.av.map (·.1)) :
  bo C (L2.upd H o.no (.dT (putK ((S.av.map λx=>kN x.1).zip (o.ns.map V.ref)) (kN (b,pn)) (.ref q)))) a (bJ S (.av b pn its)) {o with ns:=o.ns++[q]}:=by
 let d:=Nd.of h.nd;let hb:=h.no.1;let nx:cg (H o.no):=by rw[hb];exact λ_ z=>by cases z
 let⟨ub,jm,ha,hub,hjm⟩:=h.obj;let⟨_,hi,_⟩:=h.ins;let⟨_,hs,_⟩:=h.st;let⟨_,hba,_⟩:=h.ba;let⟨_,hre,_⟩:=h.re;let em:(S.av.map λx=>kN x.1)=(S.av.map (·.1)).map kN:=by rw[zw];rfl
 let hns:o.no∉o.ns:=λz=>by
  let⟨_,q⟩:=bC h.no.2 z;rw[hb] at q;cases q
 let hhs:o.no∉o.hs:=λz=>by
  let⟨_,q⟩:=bC h.ho.2 z;rw[hb] at q;cases q
 let ll:⇑(o.ns.map V.ref)=⇑S.av:=by
  have:∀{ls:List (List Item)} {as:List wV},bt H gk ls as->⇑as=⇑ls:=by
   intro ls
   induction ls with
   | nil=>intro as z;unfold bt at z;rw[z];rfl
   | cons l r ih=>rintro _ ⟨a,t,vs,rfl,_,_,h3⟩;rw[zo,zo,ih h3]
  rw[za,this h.no.2,za]
 let nn:q∉[o.pl,o.ba,o.re]/\q∉o.hs/\q∉o.ns:=by
  unfold Ow.lists at nq;rw[zD,zD] at nq;exact{λz=>nq (.inl (.inl z)),λz=>nq (.inl (.inr z)),λz=>nq (.inr z)}
 let⟨n1,n2,n3⟩:=nn;simp only[zA,zB,yL,not_or] at n1;refine{{ub,jm,by rw[ao (aJ ha hb (by simp[kindOf]))];exact ha,Is.upd nx hub,Is.upd nx hjm},h.Ad (aJ h.pl hb (by simp[kindOf])),h.mW nx (aJ hi hb (by simp[kindOf])),h.vK nx (aJ hs hb (by simp[kindOf])),h.Ba nx (aJ hba hb (by simp[kindOf])),
  h.CI nx (aJ h.ho.1 hb (by simp[kindOf])) hhs,{?_,?_},h.w9 nx (aJ hre hb (by simp[kindOf])),?_,h.dd}
 ·show L2.upd H o.no _ o.no=some (HO.dT (((S.av++[((b,pn),its)]).map λx=>kN x.1).zip ((o.ns++[q]).map V.ref)))
  rw[aA,mI (by rw[za];exact ll.symm) (by rw[em];exact Gb fr),zg,zg];rfl
 ·show bt _ gk ((S.av++[((b,pn),its)]).map (·.2)) (o.ns++[q])
  rw[zg];exact bt.snoc (by rw[ao (aJ hq hb (by simp[kindOf]))];exact hq) (ar.upd nx iq) (bt.upd nx hns h.no.2)
 ·refine Nd.to {d.pb,d.pr,d.ph,?_,d.br,d.bh,?_,d.rh,?_,d.hh,?_,?_}
  ·show o.pl∉o.ns++[q]
   rw[zD,zv];rintro(z | z)
   ·exact d.pn z
   ·exact n1.1 z.symm
  ·show o.ba∉o.ns++[q]
   rw[zD,zv];rintro(z | z)
   ·exact d.bn z
   ·exact n1.2.1 z.symm
  ·show o.re∉o.ns++[q]
   rw[zD,zv];rintro(z | z)
   ·exact d.rn z
   ·exact n1.2.2 z.symm
  ·show(o.ns++[q]).Nodup
   rw[zP];exact{d.nn,by simp,λx hx y hy e=>by rw[zv] at hy;subst hy;subst e;exact n3 hx}
  ·intro x hx z
   let z':x∈o.ns++[q]:=z;rw[zD,zv] at z';rcases z' with z' | z'
   ·exact d.hn x hx z'
   ·subst z';exact n2 hx
def bo.EZ (h:bo C H a S o) {l:Int×Int} {v ub jm:V} (ha:H a=some (.ins C o.dx (Ko o ub jm))) (ij:Is H (dO lH S.cD) jm) (iv:Is H (dL l) v):bo C (L2.upd H a (.ins C o.dx (Ko o v jm))) a (bJ S (.aE l)) o:=by
 let nx:cg (H a):=by rw[ha];exact λ_ z=>by cases z
 let⟨_,hi,_⟩:=h.ins;let⟨_,hs,_⟩:=h.st;let⟨_,hba,_⟩:=h.ba;let⟨_,hre,_⟩:=h.re;let hns:a∉o.ns:=λz=>by
  let⟨_,q⟩:=bC h.no.2 z;rw[ha] at q;cases q
 let hhs:a∉o.hs:=λz=>by
  let⟨_,q⟩:=bC h.ho.2 z;rw[ha] at q;cases q
 exact{{v,jm,aA,Is.upd nx iv,Is.upd nx ij},h.Ad (aJ h.pl ha (by simp[kindOf])),h.mW nx (aJ hi ha (by simp[kindOf])),h.vK nx (aJ hs ha (by simp[kindOf])),h.Ba nx (aJ hba ha (by simp[kindOf])),
  h.CI nx (aJ h.ho.1 ha (by simp[kindOf])) hhs,h.Ar nx (aJ h.no.1 ha (by simp[kindOf])) hns,h.w9 nx (aJ hre ha (by simp[kindOf])),h.nd,h.dd}
def bo.JR (h:bo C H a S o) {j:Jump} {v ub jm:V} (ha:H a=some (.ins C o.dx (Ko o ub jm))) (iu:Is H (dO dL S.aE) ub) (iv:Is H (lH j) v):bo C (L2.upd H a (.ins C o.dx (Ko o ub v))) a (bJ S (.cD j)) o:=by
 let nx:cg (H a):=by rw[ha];exact λ_ z=>by cases z
 let⟨_,hi,_⟩:=h.ins;let⟨_,hs,_⟩:=h.st;let⟨_,hba,_⟩:=h.ba;let⟨_,hre,_⟩:=h.re;let hns:a∉o.ns:=λz=>by
  let⟨_,q⟩:=bC h.no.2 z;rw[ha] at q;cases q
 let hhs:a∉o.hs:=λz=>by
  let⟨_,q⟩:=bC h.ho.2 z;rw[ha] at q;cases q
 exact{{ub,v,aA,Is.upd nx iu,Is.upd nx iv},h.Ad (aJ h.pl ha (by simp[kindOf])),h.mW nx (aJ hi ha (by simp[kindOf])),h.vK nx (aJ hs ha (by simp[kindOf])),h.Ba nx (aJ hba ha (by simp[kindOf])),
  h.CI nx (aJ h.ho.1 ha (by simp[kindOf])) hhs,h.Ar nx (aJ h.no.1 ha (by simp[kindOf])) hns,h.w9 nx (aJ hre ha (by simp[kindOf])),h.nd,h.dd}
def bo.IS (h:bo C H a S o) {pn:Str} {q:wV} (hq:H q=some (.lst [])) (nq:q∉o.lists) (fr:pn∉S.holds.map (·.1)) :
  bo C (L2.upd H o.ho (.dK (putK ((S.holds.map λx=>kS x.1).zip (o.hs.map V.ref)) (kS pn) (.ref q)))) a {S with holds:=S.holds++[(pn,[])]} {o with hs:=o.hs++[q]}:=by
 let d:=Nd.of h.nd;let⟨d1,d2,d3⟩:=JG h.dd;let hb:=h.ho.1;let nx:cg (H o.ho):=by rw[hb];exact λ_ z=>by cases z
 let⟨ub,jm,ha,hub,hjm⟩:=h.obj;let⟨_,hba,_⟩:=h.ba;let⟨_,hre,_⟩:=h.re;let em:(S.holds.map λx=>kS x.1)=(S.holds.map (·.1)).map kS:=by rw[zw];rfl
 let hns:o.ho∉o.ns:=λz=>by
  let⟨_,q⟩:=bC h.no.2 z;rw[hb] at q;cases q
 let hhs:o.ho∉o.hs:=λz=>by
  let⟨_,q⟩:=bC h.ho.2 z;rw[hb] at q;cases q
 let ll:⇑(o.hs.map V.ref)=⇑S.holds:=by
  have:∀{ls:List (List (Int×Str))} {as:List wV},bt H Le ls as->⇑as=⇑ls:=by
   intro ls
   induction ls with
   | nil=>intro as z;unfold bt at z;rw[z];rfl
   | cons l r ih=>rintro _ ⟨a,t,vs,rfl,_,_,h3⟩;rw[zo,zo,ih h3]
  rw[za,this h.ho.2,za]
 let nn:q∉[o.pl,o.ba,o.re]/\q∉o.hs/\q∉o.ns:=by
  unfold Ow.lists at nq;rw[zD,zD] at nq;exact{λz=>nq (.inl (.inl z)),λz=>nq (.inl (.inr z)),λz=>nq (.inr z)}
 let⟨n1,n2,n3⟩:=nn;simp only[zA,zB,yL,not_or] at n1;refine{{ub,jm,by rw[ao (aJ ha hb (by simp[kindOf]))];exact ha,Is.upd nx hub,Is.upd nx hjm},h.Ad (aJ h.pl hb (by simp[kindOf])),h.mW nx d2,h.vK nx d3,h.Ba nx (aJ hba hb (by simp[kindOf])),
  {?_,?_},h.Ar nx (aJ h.no.1 hb (by simp[kindOf])) hns,h.w9 nx (aJ hre hb (by simp[kindOf])),?_,h.dd}
 ·show L2.upd H o.ho _ o.ho=some (HO.dK (((S.holds++[((pn,[]):Str×List (Int×Str))]).map λx:Str×List (Int×Str)=>kS x.1).zip ((o.hs++[q]).map V.ref)))
  rw[aA,mI (by rw[za];exact ll.symm) (by rw[em];exact pT fr),zg,zg];rfl
 ·show bt _ Le ((S.holds++[((pn,[]):Str×List (Int×Str))]).map λx:Str×List (Int×Str)=>x.2) (o.hs++[q])
  rw[zg];exact bt.snoc (vs:=[]) (by rw[ao (aJ hq hb (by simp[kindOf]))];exact hq) (by show ar _ [] [];unfold ar;rfl) (bt.upd nx hhs h.ho.2)
 ·refine Nd.to {d.pb,d.pr,?_,d.pn,d.br,?_,d.bn,?_,d.rn,?_,d.nn,?_}
  ·show o.pl∉o.hs++[q]
   rw[zD,zv];rintro(z | z)
   ·exact d.ph z
   ·exact n1.1 z.symm
  ·show o.ba∉o.hs++[q]
   rw[zD,zv];rintro(z | z)
   ·exact d.bh z
   ·exact n1.2.1 z.symm
  ·show o.re∉o.hs++[q]
   rw[zD,zv];rintro(z | z)
   ·exact d.rh z
   ·exact n1.2.2 z.symm
  ·show(o.hs++[q]).Nodup
   rw[zP];exact{d.hh,by simp,λx hx y hy e=>by rw[zv] at hy;subst hy;subst e;exact n2 hx}
  ·intro x hx z
   let hx':x∈o.hs++[q]:=hx;rw[zD,zv] at hx';rcases hx' with hx' | hx'
   ·exact d.hn x hx' z
   ·subst hx';exact n3 z
def bo.kG (h:bo C H a S o) {pn:Str} (nk:(S.holds.map (·.1)).Nodup) (hm:pn∈S.holds.map (·.1)) :
  ∃x vs,cS ((S.holds.map λx=>kS x.1).zip (o.hs.map V.ref)) (kS pn)=some (.ref x)/\x∈o.hs/\H x=some (.lst vs)/\∀y b i,Is H (Le (b,i)) y->bo C (L2.upd H x (.lst (vs++[y]))) a (bJ S (.holds pn b i)) o:=by
 let d:=Nd.of h.nd;let⟨x,vs,e1,e2,e3,e4⟩:=uX pn h.ho.2 d.hh nk hm;refine{x,vs,e1,e2,e3,λy b i iy=>?_};let nx:cg (H x):=by rw[e3];exact λ_ z=>by cases z
 let⟨ub,jm,ha,hub,hjm⟩:=h.obj;let⟨_,hi,_⟩:=h.ins;let⟨_,hs,_⟩:=h.st;let ea:bJ S (.holds pn b i)={S with holds:=S.holds.map λq:Str×List (Int×Str)=>if q.1=pn then(q.1,q.2++[(b,i)]) else q}:=by
  show({S with holds:=gO S.holds pn (b,i)}:cF)=_;unfold gO;rw[yF hm]
 rw[ea];refine{h.uO nx (aJ ha e3 (by simp[kindOf])),h.Ad (λz=>d.ph (by rw[z];exact e2)),h.mW nx (aJ hi e3 (by simp[kindOf])),h.vK nx (aJ hs e3 (by simp[kindOf])),h.Ba nx (λz=>d.bh (by rw[z];exact e2)),
  {?_,e4 y (b,i) (Is.upd nx iy)},h.Ar nx (aJ h.no.1 e3 (by simp[kindOf])) (d.hn x e2),h.w9 nx (λz=>d.rh (by rw[z];exact e2)),h.nd,h.dd}
 rw[ao (aJ h.ho.1 e3 (by simp[kindOf])),h.ho.1];show _=some (HO.dK (((S.holds.map λq:Str×List (Int×Str)=>if q.1=pn then(q.1,q.2++[(b,i)]) else q).map λx:Str×List (Int×Str)=>kS x.1).zip _));rw[zw];have:(S.holds.map λx:Str×List (Int×Str)=>kS x.1)=S.holds.map ((λx:Str×List (Int×Str)=>kS x.1)∘λq:Str×List (Int×Str)=>if q.1=pn then(q.1,q.2++[(b,i)]) else q):=by
  refine xg λq _=>?_;show kS q.1=kS (if q.1=pn then((q.1,q.2++[(b,i)]):Str×List (Int×Str)) else q).1;split <;> rfl
 rw[this]
end
end Sc
namespace L2
open PySem PySem.Spec PyProof.Rows
noncomputable def noStar:Expr->Bool
 | .Starred ..=>false
 | _=>true
def ky (h:noStar e=true):starEach (e::es) env=(false,eval e env)::starEach es env:=by
 cases e <;> first | rfl | (simp[noStar] at h)
def ag (ha:PE X e te) (hr:PA X es t) (hs:noStar e=true<|>qe_):PA X (e::es) (aF te t):=aa ha hr (ky hs)
end L2
namespace Sc
open PySem L2 Lm
def md (F:Nat->Dt) (Pσ:St->Prop) (hn:n<=sizeLine) (h0:Pσ U₀)
  (turn:∀(i:Nat) (U:St) (H:Hp) (R:St->V->Hp->Prop),i<n->au H1 H->Pσ U->(∀U3 y H5,au H H5->Is H5 (F i) y->Pσ U3->R U3 y H5)->g (.int (lo+i)) U H λU3 H3=>te U3 H3 λy H5=>R U3 y H5)
  (fin:∀D vs H,au H1 H->H1 D=none->H D=some (.lst vs)->ar H ((List.range n).map F) vs->Q (.ref D) H):dE U₀ g sC te Q (NM lo n) H1:=by
 refine kj (ws:=List.range n) (enc:=λi=>.int (lo+(i:Nat))) F Pσ (by rw[zO];exact hn) h0 (λi H hi _=>by rw[zO] at hi;exact hi) (λH _=>by rw[zO];exact zh _) ?_ ?_ fin
 ·rintro i x H H2 hi _ ⟨rfl,rfl⟩
  exact{rfl,by rw[List.getElem_range]}
 ·intro i U H R hi s p r
  exact turn i U H R (yI.mp hi) s p r
def vn {c:Bool} {T:(Bool->Hp->Prop)->Prop} {Z:Bool->Hp->Prop} {H:Hp} (v:Bool) (h1:c=true->∀Z,Z v H->T Z) (h2:c=false->v=false) (hz:Z v H):if c=true then T Z else Z false H:=by
 cases c with
 | true=>rw[yF rfl];exact h1 rfl Z hz
 | false=>rw[yE (by simp)];rw[<-h2 rfl];exact hz
def BC:List (Int×Int)->TA
 | []=>bK
 | p::r=>aF (Gm (aF (tC (.int p.1)) (aF (tC (.int p.2)) bK))) (BC r)
theorem Iz:∀{ps:List (Int×Int)} {H:Hp} {R:List V->Hp->Prop},(∀vs H',au H H'->ar H' (ps.map dL) vs->R vs H')->BC ps U H R
 | [],H,R,h=>h [] H (au.refl _) eM
 | p::r,H,R,h=>by
  let sl:=yt;refine{by show 2<=sizeLine;ext,λq hq=>?_};refine Iz λvs H' s' il=>?_;let s1:=cj (o:=HO.tup [.int p.1,.int p.2]) hq;exact h _ _ (s1.trans s') (aM (AA (s' _ _ aA)) il)
def Qv (ps:List (Int×Int)):TE:=λ_ H Q=>∀D vs H',au H H'->H' D=some (.lst vs)->ar H' (ps.map dL) vs->Q (.ref D) H'
def KO (hl:⇑ps<=1000) (h:Qv ps U H Q):BD (BC ps) U H Q:=by
 let sl:=yt;refine Iz λvs H' s' il=>{by have:=aI il;ext,λD hD=>?_}
 exact h D vs _ (s'.trans (cj hD)) aA (il.mono (cj hD))
def ML:PA X [] (BC []):=af
def Ov (h:PA X es (BC r)):PA X (.Tuple [.Constant (.int a) x1 p1,.Constant (.int b) x2 p2] k pos::es) (BC ((a,b)::r)):=
 aa (bB (aa ah (aa ah af (ky rfl)) (ky rfl))) h (ky rfl)
def MK (h:PA X es (BC ps)) (hl:⇑ps<=1000<|>qb_):PE X (.List es pos) (Qv ps):=by
 intro pins s U H Q I hq;exact bg h pins s U H Q I (KO hl hq)
end Sc
namespace Sc
open PySem L2 Lm
def join {c:Bool} {t1 t2:TS} {D:Ends} {U:St} {H:Hp} (P:St->Hp->Prop) (ha:∀N:St->Hp->Prop,(∀U H,P U H->N U H)->c=true->t1 {D with nx:=N} U H)
  (hb:∀N:St->Hp->Prop,(∀U H,P U H->N U H)->c=false->t2 {D with nx:=N} U H) (hN:∀U H,P U H->D.nx U H):if c=true then t1 D U H else t2 D U H:=by
 cases c with
 | true=>rw[yF rfl];exact ha D.nx hN rfl
 | false=>rw[yE (by simp)];exact hb D.nx hN rfl
def cI (h1:-10000<n) (h2:n<10000):⇑(dec n)<=5:=by
 by_cases h:0<=n
 ·have:=CY h h2;ext
 ·rw[pQ (),len_app]
  have:=CY (n:=-n) () ();have:("-": Str).length=1:=rfl;ext
def iA (h1:-10000<n) (h2:n<10000):n.natAbs.log2<1920:=by
 by_cases z:n.natAbs=0
 ·rw[z];decide
 ·exact zV ((Nat.log2_lt z).mpr (show n.natAbs<2^14 by ext)) ∅
def fU (h1:-10000<x.1) (h2:x.1<10000) (h3:-10000<x.2) (h4:x.2<10000):⇑(cR x)<=11:=by
 unfold cR;let a:=cI h1 h2;let b:=cI h3 h4;split
 ·ext
 ·rw[len_app,len_app]
  have:("/": Str).length=1:=rfl;ext
def uT (h:pJ it):⇑(kX it)<=30:=by
 let⟨o,x⟩:=it;let⟨⟨hr,h1,h2,h3⟩,hq⟩:=h;let⟨_,p2,_⟩:=hr.pos;dsimp only at h1 h2 h3 p2 hq;let lx:=fU (x:=x) () h2 () h3;cases o with
 | none=>
  show("r:" ++ cR x).length<=30;rw[len_app];have:("r:": Str).length=2:=rfl;ext
 | some q=>
  let⟨q1,q2,q3,q4,_⟩:=hq q rfl;let a:=cI (n:=q.1) () ();let b:=cI (n:=q.2) () ();show(dec q.1 ++":" ++ dec q.2 ++":" ++ cR x).length<=30;rw[len_app,len_app,len_app,len_app];have:(":": Str).length=1:=rfl;ext
theorem vH {sep:Str} {k:Nat}:∀{zs:List Str},(∀z∈zs,⇑z<=k)->(zs.map (λz:Str=>⇑z+⇑sep)).sum<=⇑zs*(k+⇑sep)
 | [],_=>by simp
 | z::r,h=>by
  let ih:=vH (sep:=sep) (zs:=r) λy hy=>h y (zj _ hy);have:=h z zk;rw[zf,wo,zo,Nat.succ_mul];ext
theorem join_le (sep:Str):∀zs:List Str,⇑(Str.join sep zs)<=(zs.map (λz:Str=>⇑z+⇑sep)).sum
 | []=>zh _
 | [z]=>by rw[join_one];simp
 | z::y::r=>by
  let ih:=join_le sep (y::r);rw[dQ,len_app,len_app,zf,wo];ext
def Jh (h:∀z∈zs,⇑z<=k):⇑(Str.join sep zs)<=⇑zs*(k+⇑sep):=zJ (join_le sep zs) (vH h)
inductive IZ:List Expr->List (Int×Int)->Prop
 | n:IZ [] []
 | c {a b:Int} {x y u v m k r ps} (h:IZ r ps):IZ (.Tuple [.Constant (.int a) x y,.Constant (.int b) u v] m k::r) ((a,b)::ps)
def MM {X:Cx} {es:List Expr} {ps:List (Int×Int)} (h:IZ es ps):PA X es (BC ps):=by
 induction h with
 | n=>exact ML
 | c _ q=>exact Ov q
@[irreducible] def QZ (X:Cx) (s:Stmt) (t:TS):Prop:=PS X s t
@[irreducible] def Q0 (X:Cx) (e:Expr) (t:TE):Prop:=PE X e t
@[irreducible] def QX (X:Cx) (s:List Stmt) (t:TS):Prop:=uk X s t
end Sc
namespace L2
open PySem PySem.Spec PyProof.Rows
structure Fl (B:wW) (l:List Env) (e:wV) (cls:wM) (dx:Option wV) (fl:wM) (h:wW):Prop where
 st:B.StaysIn h
 new:B.get? e=none
 fr:h.FunFrames B l
 ob:∃oe vs T oT ts,h.get? e=some oe/\oe.cls=cls/\oe.dict=dx/\oe.data=.fields vs/\vs[1]?=some (.ref T)/\B.get? T=none/\T≠e/\h.get? T=some oT/\oT.data=.fields ts/\ts[3]?=some fl
def GZ (f:Array wM->Array wM) (o:Obj):(o.mapFields f).dict=o.dict:=by
 let⟨c,d,dt,sl⟩:=o;cases dt <;> rfl
section
variable {M:Model} {A:wR} {E:wM->wN->Prop} {s:wN} {B:wW} {env:Env} {outer l:List Env} {L e:wV} {Q:Unit->wN->Prop} {cls fl:wM} {dx:Option wV}
def CL {oe:Obj} {vs:Array wM} {head:wM} {had:Bool} (hfr:A.frames=some (env::outer)) (hl:s.heap.FunFrames B (env::outer)) (hf:env.frame=some L) (he:s.heap.get? e=some oe) (hb:B.StaysIn s.heap) (hn:B.get? e=none) (hd:oe.data=.fields vs) (h1:1<vs.size)
  (h:∀h',Fl B (env::outer) e oe.cls oe.dict (rawInt L) h'->s.heap.UpToSlots h'->Q .unit {s with heap:=h'}) :
  wpAny M A (do setField (.ref e) 1 (<-EntryCells.newEntry head (<-frameOf env) .none (rawInt L) .none (<-entryPlaceOf L had))) Q E s:=by
 let other:∀b o,s.heap.get? b=some o->(∀ws,o.data≠.fields ws)->b≠e:=λb o q z y=>by subst y;rw[he] at q;cases q;exact z _ hd
 let ne:e∉(env::outer).filterMap (·.frame):=λhm=>by
  let⟨_,o,ho,z⟩:=hl.mem hm;exact other e o ho z rfl
 refine yj (wpAny_frameOf_fun hfr hl hf λg sg=>yj (wpAny_entryPlaceOf λpl hpl=>?_));unfold EntryCells.newEntry newFields;refine yj (yU ?_ (hpl.sizeOk5 _ _ _ _ _));let t3:∃ts,(Data.fields ([head,.ref L,.none,rawInt L,.none]++(if pl.isEmpty then List.replicate 6 Value.none else pl)).toArray)=.fields ts/\ts[3]?=some (rawInt L):={_,rfl,by simp}
 generalize (Data.fields ([head,.ref L,.none,rawInt L,.none]++(if pl.isEmpty then List.replicate 6 Value.none else pl)).toArray)=dt at t3 ⊢;let⟨ts,rfl,t3⟩:=t3;let ge:g.get? e=some oe:=(sg.2.1 e ne).trans he;let lt:e<g.objs.size:=yo ge;let gb:B.StaysIn g:=λb o q=>(sg.2.1 b λhm=>by rw[(hl.mem hm).1] at q;cases q).trans (hb b o q);let pe:=yk {cls:=Value.type "traceback",dict:=none,data:=Data.fields ts} ge;let pt:=yn g (o:={cls:=Value.type "traceback",dict:=none,data:=Data.fields ts}) rfl;refine wpAny_setField pe hd h1 (h _ ?_ ?_)
 ·let kp:∀b o,b≠e->g.get? b=some o->((g.push {cls:=Value.type "traceback",dict:=none,data:=Data.fields ts}).update e (Obj.mapFields (·.setIfInBounds 1 (Value.ref g.objs.size)))).get? b=some o:=λb o z q=>by
   rw[yp _ _ (Ne.symm z)];exact yk _ q
  refine{λb o q=>kp b o (λz=>by subst z;rw[hn] at q;cases q) (gb b o q),hn,hl.of_keeps λb o q z=>?_,?_}
  ·let⟨sl,q'⟩:=sg.2.2 b o q
   exact{_,kp b _ (other b o q z) q',rfl}
  ·let hd':=wH hd (·.setIfInBounds 1 (Value.ref g.objs.size))
   refine{_,_,g.objs.size,_,ts,yq _ pe (Obj.isFreed_of_fields hd'),Obj.cls_mapFields _ _,GZ _ _,hd',by simp[h1],gb.fresh,z9 lt,(yp _ _ (ya lt)).trans pt,rfl,t3}
 ·intro b o q z
  let⟨sl,q'⟩:=sg.2.2 b o q;exact{sl,by rw[yp _ _ (Ne.symm (other b o q z))];exact yk _ q'}
def oh (x:Fl B l e cls dx fl s.heap) (h:∀h',Fl B l e cls dx .none h'->s.heap.UpToSlots h'->Q .unit {s with heap:=h'}):wpAny M A (setFlight (.ref e) none) Q E s:=by
 let⟨st,new,fr,oe,vs,T,oT,ts,he,hc,hdx,hd,h1,nT,Te,hT,hdT,h3⟩:=x;let nr:∀b o,s.heap.get? b=some o->(∀ws,o.data≠.fields ws)->b≠T:=λb o q z y=>by subst y;rw[hT] at q;cases q;exact z _ hdT
 unfold setFlight;refine yj (yR he hd h1 ?_);rw[yF (show(Value.ref T != Value.none)=true from by simp)];let z3:=(Array.getElem?_eq_some_iff.mp h3).1;let ot:∀b,b≠T->(s.heap.update T (Obj.mapFields (·.setIfInBounds 3 ((none:Option wV).elim Value.none λf=>rawInt f)))).get? b=s.heap.get? b:=λb z=>yp _ _ (Ne.symm z);let hd':=wH hdT (·.setIfInBounds 3 ((none:Option wV).elim Value.none λf=>rawInt f));refine wpAny_setField hT hdT z3 (h _ {λb o q=>(ot b λz=>by subst z;rw[nT] at q;cases q).trans (st b o q),new,fr.of_keeps λb o q z=>{o,(ot b (nr b o q z)).trans q,rfl},?_} λb o q z=>{o.slots,(ot b (nr b o q z)).trans q});exact{oe,vs,T,_,_,(ot e (Ne.symm Te)).trans he,hc,hdx,hd,h1,nT,Te,yq _ hT (Obj.isFreed_of_fields hd'),hd',by simp[z3]}
def Ju {oe:Obj} {vs:Array wM} (hfr:A.frames=some (env::outer)) (hl:s.heap.FunFrames B (env::outer)) (hf:env.frame=some L) (he:s.heap.get? e=some oe) (hb:B.StaysIn s.heap) (hn:B.get? e=none) (hd:oe.data=.fields vs) (h1:vs[1]?=some .none)
  (h:∀h',Fl B (env::outer) e oe.cls oe.dict (rawInt L) h'->s.heap.UpToSlots h'->Q .unit {s with heap:=h'}):wpAny M A (noteFrame (.ref e) env) Q E s:=by
 unfold noteFrame;simp only[hf];refine yj (yR he hd h1 ?_);rw[yE ∅];exact CL hfr hl hf he hb hn hd (Array.getElem?_eq_some_iff.mp h1).1 h
def K3 (hfr:A.frames=some (env::outer)) (hf:env.frame=some L) (x:Fl B (env::outer) e cls dx .none s.heap) (h:∀h',Fl B (env::outer) e cls dx (rawInt L) h'->s.heap.UpToSlots h'->Q .unit {s with heap:=h'}):wpAny M A (noteFrame (.ref e) env) Q E s:=by
 let⟨st,new,fr,oe,vs,T,oT,ts,he,hc,hdx,hd,h1,nT,Te,hT,hdT,h3⟩:=x;let nr:∀b o,s.heap.get? b=some o->(∀ws,o.data≠.fields ws)->b≠T:=λb o q z y=>by subst y;rw[hT] at q;cases q;exact z _ hdT
 unfold noteFrame;simp only[hf];refine yj (yR he hd h1 ?_);rw[yF (show(Value.ref T != Value.none)=true from by simp)];refine yj (yR hT hdT h3 ?_);rw[yE (show¬((Value.none == rawInt L)=true) from by simp[rawInt])];let ot:∀b,b≠T->(s.heap.update T (Obj.mapFields (·.setIfInBounds 3 Value.none))).get? b=s.heap.get? b:=λb z=>yp _ _ (Ne.symm z);refine yj (wpAny_setField hT hdT (Array.getElem?_eq_some_iff.mp h3).1 ?_);subst hc hdx;refine CL hfr (fr.of_keeps λb o q z=>{o,(ot b (nr b o q z)).trans q,rfl}) hf ((ot e (Ne.symm Te)).trans he) (λb o q=>(ot b λz=>by subst z;rw[nT] at q;cases q).trans (st b o q)) new hd (Array.getElem?_eq_some_iff.mp h1).1 λh' x u=>h h' x λb o q z=>u b o ((ot b (nr b o q z)).trans q) z
end
section
variable {K:yr} {D x:wV} {prog:wO} {w:wQ} {A:wR} {E:wM->wN->Prop} {h:wW} {g:Array GenState} {d:Drawn} {t:Nat} {os:OsState} {name:Str} {v:wM} {o:Obj} {dx:wV} {mA:Str->Option wM}
def J6 {M:Model} (X:K.In h) (hx:h.get? x=some o) (hc:o.cls=.ref D) (hno:PySem.W.notCls o=true) (hd:o.dict=some dx) (hn:h.Ns1 dx mA) (hh:PySem.W.hasDictIn K D=true) (ha:PySem.W.findIn K (.ref D) name=some none) (hv:mA name=some v) :
  PySem.W.Looks M h (Builtin.ObjectAttr.find (.ref x) (.ref D) name) (.value v):=by
 let⟨od,ho,hl⟩:=nX hn;exact PySem.W.looks_find X (od:=some od) {hx,hc,hno,by rw[hd];exact ho} (PySem.W.findObj_own hh ha rfl (by rw[hl,hv]))
open Builtin Builtin.ObjectAttr in
def HF {tk:Tok} {Q:Fin->wN->Prop} (hx:h.get? x=some o) (hc:o.cls=.ref D) (L:PySem.W.Looks (model prog w) h (find (.ref x) (.ref D) name) (.value v)) (hq:Q (.done (.ret v)) {(h),g,d,t,os}) :
  wpAny (model prog w) A (Builtin.«object.__getattribute__» {[.ref x,.str name tk],[]}) Q E {(h),g,d,t,os}:=by
 unfold Builtin.«object.__getattribute__»
 repeat (any_goals (first | assumption | (with_reducible refine wpAny_loadPart_at hx ?_;rw[hc]) | (with_reducible refine L.at ?_) | wp_step))
def NO {tk:Tok} {fill expr:Bool} {Q:wM->wN->Prop} (X:K.In h) (Z:gS K D) (hx:h.get? x=some o) (hc:o.cls=.ref D) (L:PySem.W.Looks (model prog w) h (Builtin.ObjectAttr.find (.ref x) (.ref D) name) (.value v)) (hv:PySem.W.handedIn v=true) (hq:Q v {(h),g,d,t,os}) :
  wpAny (model prog w) A (getAttrBy (.ref x) (.str name tk) fill expr) Q E {(h),g,d,t,os}:=by
 let f3:=F.attr_ValueError.ga.bind (.ref x);let hx0:(expr&&onTheHeap (Value.builtin "BaseException.__getattribute__"))=false:=by cases expr <;> rfl
 let hx2:(Value.builtin "BaseException.__getattribute__"== Value.builtin "object.__getattribute__")=false:=by decide +kernel
 let hx1:(onTheHeap (Value.ref D)&&Value.builtin "BaseException.__getattribute__"== Value.builtin "object.__getattribute__")=false:=by rw[hx2];rfl
 let L1:=PySem.W.looks_findIn (M:=model prog w) X Z.ga;let L2:=PySem.W.looks_findIn (M:=model prog w) X Z.Qy;let ho:handedOut v=pure v:=PySem.W.handedOut_of hv
 repeat (any_goals (first | assumption | (with_reducible refine wpAny_loadPart_at hx ?_;rw[hc]) | (with_reducible refine L1.at ?_) | (with_reducible refine L2.at ?_) | wp_step))
 refine codeAny_call_builtin F.attr_ValueError.ga.plain F.entry_bexc_ga (CQ X Z hx hc (HF hx hc L ?_))
 repeat (any_goals (first | assumption | rw[ho] | wp_step))
def L6 {expr:Bool} {Q:wM->wN->Prop} {s:wN} (X:K.In s.heap) (Z:gS K D) (hx:s.heap.get? x=some o) (hc:o.cls=.ref D) (hno:PySem.W.notCls o=true) (hd:o.dict=some dx) (hn:s.heap.Ns1 dx mA) (hh:PySem.W.hasDictIn K D=true) (ha:PySem.W.findIn K (.ref D) name=some none) (hm:mA name=some v) (hv:PySem.W.handedIn v=true)
  (hq:Q v {s with toks:=s.toks+1}):wpAny (model prog w) A (getAttr (.ref x) name expr) Q E s:=by
 let⟨h,g,d,t,os⟩:=s;unfold getAttr;refine yj (wpAny_mkText ?_);exact NO X Z hx hc (J6 X hx hc hno hd hn hh ha hm) hv hq
end
structure vy (K:yr) (D S:wV):Prop where
 sa:PySem.W.findIn K (.ref D) "__setattr__"= some (some (.builtin "object.__setattr__"))
 cd:∃nm bs ns qn sn sub ab col del,PySem.W.clsIn K D=some {nm,bs,[.ref D,.ref S,.type "ValueError",.type "Exception",.type "BaseException",.type "object"],ns,qn,true,sn,sub,ab,col,del}
section
variable {K:yr} {D S x:wV} {prog:wO} {w:wQ} {A:wR} {E:wM->wN->Prop} {name:Str} {v:wM} {o:Obj} {dx:wV} {mA:Str->Option wM} {s:wN} {Q:Unit->wN->Prop}
def F7 (self:wM):refuseLoop self "__setattr__" [.ref D,.ref S,.type "ValueError",.type "Exception",.type "BaseException",.type "object"]=pure .unit:=by
 rw[refuseLoop_ref,refuseLoop_ref];exact PySem.F.store_ValueError.passes self
open Builtin Builtin.ObjectAttr in
def Ff {od:Option Obj} {tk:Tok} {R:Result->wN->Prop} (X:K.In s.heap) (I:PySem.W.InstAt s.heap x o D od) (Z:vy K D S) (ha:PySem.W.findIn K (.ref D) name=some none)
  (h:wpAny (model prog w) A.in1 (storeInOwnDict (.ref x) (.ref D) (.str name tk) name v false) (λfin s'=>match fin with | .done f=>R (.ok f) s' | .again c'=>c'.quiet=true/\codeAny (model prog w) A c' R s') (λe s'=>R (.error e) s') s) :
  codeAny (model prog w) A (.call (.builtin "object.__setattr__") {[.ref x,.str name tk,v],[]}) R s:=by
 let SF:=PySem.F.store_object;let⟨nm,bs,ns,qn,sn,sub,ab,col,del,hc⟩:=Z.cd;let hi:PySem.W.Looks (model prog w) s.heap (isInstance (.ref x) (.type "object")) true:=I.type.andThen (PySem.W.looks_mroIn X (by unfold PySem.W.mroIn;rw[hc];rfl));refine codeAny_call_builtin SF.slot.plain SF.entry (@PySem.W.check_slot (model prog w) _ _ s "object.__setattr__" "object" "__setattr__" (.ref x) [.str name tk,v] [] _ SF.kind SF.split hi (SF.args (.ref x) (.str name tk) v) ?_);let hm:PySem.W.Looks (model prog w) s.heap (mroOf (.ref D)) [.ref D,.ref S,.type "ValueError",.type "Exception",.type "BaseException",.type "object"]:=(PySem.W.looks_clsIn X hc).andThen .now;rw[PySem.W.osa_eq,refuse_eq];refine yj (yj (I.type.here (yj (hm.here ?_))));rw[F7];exact ym (yj (I.type.here (yj ((PySem.W.looks_findIn X ha).here (yj (ym h))))))
def HE {vs:Array wM} (X:K.In s.heap) (hx:s.heap.get? x=some o) (hc:o.cls=.ref D) (hd:o.data=.fields vs) (hn:o.dict=none) (Z:vy K D S) (ha:PySem.W.findIn K (.ref D) name=some none)
  (h:∀h',h'.get? x=some {o with dict:=some ↑s}->h'.Ns1 ↑s (λy=>if y=name then some v else none)->(∀b u,b≠x->s.heap.get? b=some u->h'.get? b=some u)->Q .unit {s with heap:=h',toks:=s.toks+2}) :
  wpAny (model prog w) A (setAttr (.ref x) name v) Q E s:=by
 let I:PySem.W.InstAt s.heap x o D none:={hx,hc,by unfold PySem.W.notCls;rw[hd],by rw[hn];trivial}
 let⟨nm,bs,ns,qn,sn,sub,ab,col,del,hcl⟩:=Z.cd;refine PySem.W.set_plain X I Z.sa (Ff (s:={s with toks:=s.toks+1}) X I Z ha ?_);let⟨oc,odd,oda,osl⟩:=o;dsimp only at hc hd hn;subst hc hd hn;refine yj (ym (yj (yj (wpAny_loadPart hx (yj (PySem.W.Looks.here (s:={s with toks:=s.toks+1}) (PySem.W.looks_clsIn X hcl) ?_))))));let hs:x≠↑s:=ya (yo hx);let h1:=yk {cls:=Value.type "dict",data:=Data.dict #[]} hx;refine yj (wpAny_alloc' ?_);refine yj (wpAny_update' h1 ?_);refine ym (a:=some ↑s) ?_;let hu:=yq (λo:Obj=>{cls:=o.cls,dict:=some ↑s,data:=o.data,slots:=o.slots}) h1 rfl;let hg:((s.heap.push {cls:=Value.type "dict",data:=Data.dict #[]}).update x λo=>{cls:=o.cls,dict:=some ↑s,data:=o.data,slots:=o.slots}).get? ↑s=some {cls:=Value.type "dict",data:=Data.dict #[]}:=(Heap.get?_update_ne _ _ _ _ hs.symm).trans (Heap.get?_push_at rfl rfl);let hk:∀b u,b≠x->s.heap.get? b=some u->((s.heap.push {cls:=Value.type "dict",data:=Data.dict #[]}).update x λo=>{cls:=o.cls,dict:=some ↑s,data:=o.data,slots:=o.slots}).get? b=some u:=λb u z q=>(Heap.get?_update_ne _ _ _ _ z).trans (yk _ q);generalize ((s.heap.push {cls:=Value.type "dict",data:=Data.dict #[]}).update x λo=>{cls:=o.cls,dict:=some ↑s,data:=o.data,slots:=o.slots})=h2 at hu hg hk ⊢;let n2:h2.Ns ↑s (λ_=>none):={_,#[],_,hg,rfl,λe he=>absurd he (by simp),λ_=>rfl}
 show wpAny _ _ (Builtin.ObjectAttr.storeInDict ↑s (.str name s.toks) name v) _ _ _;unfold Builtin.ObjectAttr.storeInDict Builtin.ObjectAttr.newKeyGuard;refine yj (ym (yj (wpAny_nsSet1 (Heap.Ns1.of_empty n2) λh3 n3 s3=>?_)));let⟨oD,esD,epD,hoD,hdD,hcD⟩:=n3.count (Within.cons name v Within.nil);refine yj (wpAny_lookBehind hoD (by rw[hdD];exact pastItsLine_dict (zJ hcD (by rw[zo,y7,yt];ext))) ?_);refine ym (h h3 ((s3.2 x hs).trans hu) n3 λb u z q=>(s3.2 b (ya (yo q))).trans (hk b u z q))
def J3 {ns:List Str} {vs:Array wM} (X:K.In s.heap) (hx:s.heap.get? x=some o) (hc:o.cls=.ref D) (hd:o.data=.fields vs) (hn:o.dict=some dx) (n1:s.heap.Ns1 dx mA) (hw:Within mA ns) (hz:⇑ns<1000) (Z:vy K D S) (ha:PySem.W.findIn K (.ref D) name=some none)
  (h:∀h',h'.Ns1 dx (λy=>if y=name then some v else mA y)->Heap.SameBut dx s.heap h'->Q .unit {s with heap:=h',toks:=s.toks+2}) :
  wpAny (model prog w) A (setAttr (.ref x) name v) Q E s:=by
 let⟨od,ho,hl⟩:=nX n1;let I:PySem.W.InstAt s.heap x o D (some od):={hx,hc,by unfold PySem.W.notCls;rw[hd],by rw[hn];exact ho}
 let⟨nm,bs,ns',qn,sn,sub,ab,col,del,hcl⟩:=Z.cd;refine PySem.W.set_plain X I Z.sa (Ff (s:={s with toks:=s.toks+1}) X I Z ha ?_);let⟨oc,odd,oda,osl⟩:=o;dsimp only at hc hd hn;subst hc hd hn;refine yj (ym (yj (yj (wpAny_loadPart hx (yj (PySem.W.Looks.here (s:={s with toks:=s.toks+1}) (PySem.W.looks_clsIn X hcl) ?_))))));refine ym (a:=some dx) (yj (ym (yj ?_)));refine wpAny_nsSet1 (s:={s with toks:=s.toks+1}) n1 λh3 n3 s3=>?_;let⟨oD,esD,epD,hoD,hdD,hcD⟩:=n3.count (Within.cons name v hw);refine yj (wpAny_lookBehind hoD (by rw[hdD];exact pastItsLine_dict (zJ hcD (by rw[zo,yt];ext))) ?_);exact ym (h h3 n3 s3)
end
abbrev vz:List wM:=[.type "ValueError",.type "Exception",.type "BaseException",.type "object"]
structure Br (K:yr) (C S f:wV):Prop where
 obj:∃nm q N bs hdct sn sub ab col dd k0 k1 k2 k3 k5,K.lookup C=some (excClassObj nm q C N bs (.ref S::vz) hdct sn sub ab col dd k0 k1 k2 k3 k5 "ValueError.__new__")
 up:∃nm bs ns qn hd sn sub ab col del dd sl,K.lookup S=some {.type "type",dd,.cls {nm,bs,.ref S::vz,ns,qn,hd,sn,sub,ab,col,del},sl}
 sup:PySem.W.excIn K S vz "ValueError.__new__"= true
 init:PySem.W.findIn K (.ref C) "__init__"= some (some (.ref f))
 fn:PySem.W.isFn K (.ref f)=true
 kp:PySem.W.keepIn K (.ref C)=true
 cls:gS K C
 set:vy K C S
section
variable {K:yr} {C S f:wV} {prog:wO} {w:wQ} {A:wR} {s:wN} {h:wW} {g:Array GenState} {d:Drawn} {t:Nat} {os:OsState} {E:wM->wN->Prop} {rest:List wM}
def Br.tail (M:Br K C S f) (X:K.In h):OwnTail h vz (.ref S::vz):=by
 let q:=M.sup;let⟨nm,bs,ns,qn,hd,sn,sub,ab,col,del,dd,sl,e⟩:=M.up;unfold PySem.W.excIn at q;rw[e] at q;simp only at q;split at q
 ·rename_i hm hs
  cases hm;simp only[zL,wD,Bool.not_eq_true'] at q;let⟨⟨⟨⟨⟨_,_⟩,_⟩,ht⟩,aT⟩,hni⟩:=q;exact .own (X _ _ e) (.of_isNs (PySem.W.isNs_of_in X aT)) (PySem.W.nsMap_none_of_in X aT hni) .base
 ·cases q
abbrev Jz (C t:wV):Obj:={cls:=.ref C,data:=.fields #[.ref t,.none,.none,.none,.bool false,.none]}
abbrev l4 (h:wW) (C:wV) (rest:List wM):wW:=(h.push {cls:=.type "tuple",data:=.seq rest.toArray}).push (Jz C h.objs.size)
def mY {b:wV} {o:Obj} (e:h.get? b=some o):(l4 h C rest).get? b=some o:=yk _ (yk _ e)
def vf:(l4 h C rest).get? (h.objs.size+1)=some (Jz C h.objs.size):=by heap_get
def J4 {Q:Fin->wN->Prop} (M:Br K C S f) (X:K.In h) (hr:⇑rest<=sizeLine)
  (hq:wpAny (model prog w) A (call (.ref f) (.ref (h.objs.size+1)::rest)) (λr s'=>r=.none/\Q (.done (.ret (.ref (h.objs.size+1)))) s') E {l4 h C rest,g,d,t,os}) :
  wpAny (model prog w) A (Builtin.«type.__call__» {.ref C::rest,[]}) Q E {(h),g,d,t,os}:=by
 let F:=F.excBase_ValueError;let⟨nm,q,N,bs,hdct,sn,sub,ab,col,dd,k0,k1,k2,k3,k5,hl⟩:=M.obj;let hC:=X _ _ hl;let T:=M.tail X
 repeat (first | with_reducible refine wpAny_loadPart_at hC ?_ | with_reducible refine wpAny_madeBy_exc hC ?_ | wp_step)
 refine codeAny_call_builtin_code (Code.quiet_builtin _ F.quiet) (wpAny_check_new_subT F T hC (codeAny_exc_new_subT F T hC ?_ hr));show wpAny _ _ _ _ _ _;let X1:K.In (l4 h C rest):=λa o e=>mY (X a o e);let hC1:=X1 _ _ hl;let he:(l4 h C rest).get? (h.objs.size+1)=some (Jz C h.objs.size):=vf;let hcC:(Value.ref C::(.ref S::vz)).contains (.ref C)=true:=by simp
 unfold isInstance
 repeat (first | with_reducible refine wpAny_loadPart_at he ?_ | (with_reducible refine wpAny_isSubtype_exc hC1 ?_;rw[hcC]) | wp_step)
 refine(PySem.W.looks_findIn X1 M.init).at ?_;refine xo (yj ((PySem.W.bind_fn X1 _ (wD.mp M.fn)).at ?_));refine yj (yV hq (λr s' z=>?_) λ_ _ z=>z);let⟨rfl,z⟩:=z;wp_walk;exact z
def J5 {Q:wM->wN->Prop} (M:Br K C S f) (X:K.In h) (hr:⇑rest<=sizeLine)
  (hq:wpAny (model prog w) (A.under (.builtin "type.__call__" {.ref C::rest,[]})) (call (.ref f) (.ref (h.objs.size+1)::rest)) (λr s'=>r=.none/\Q (.ref (h.objs.size+1)) s') E {l4 h C rest,g,d,t,os}) :
  wpAny (model prog w) A (call (.ref C) rest) Q E {(h),g,d,t,os}:=by
 let⟨nm,q,N,bs,hdct,sn,sub,ab,col,dd,k0,k1,k2,k3,k5,hl⟩:=M.obj;let hC:=X _ _ hl;let f1:=tc_lookup;let f2:=tc_bind (.ref C);let hT:({(h),g,d,t,os}:wN).TypeIs (.ref C) "type":={_,hC,rfl}
 refine wpAny_call (codeAny_of_tree ?_);show wpAny _ _ (callAny (.ref C) _) _ _ _
 repeat (any_goals (first | assumption | with_reducible refine wpAny_loadPart_at hC ?_ | wp_step))
 refine{rfl,?_};exact codeAny_call_builtin_at (Code.quiet_builtin _ (by decide +kernel)) entry_typeCall (wpAny_check_type_call_sub hC (J4 M X hr hq))
end
def vx (C:wV) (od:Option wV) (a:wV):HO:=.ext λh=>∃o vs,h.get? a=some o/\o.cls=.ref C/\o.dict=od/\o.data=.fields vs/\vs[1]?=some .none
def Bv (C:wV) (od:Option wV) (a:wV):HO:=.ext λh=>∃o vs,h.get? a=some o/\o.cls=.ref C/\o.dict=od/\o.data=.fields vs
def XD (a:wV) (fs:List (Str×V)):HO:=.ext λh=>∃mA,h.Ns1 a mA/\∀f,dU (fs.lookup f) (mA f)
section
variable {P:wO} {w:wQ} {H:Hp} {h:wW} {C a:wV} {od:Option wV} {fs:List (Str×V)} {mA:Str->Option wM} {o:Obj} {vs:Array wM}
def vx.ok (e:h.get? a=some o) (hc:o.cls=.ref C) (hd:o.dict=od) (hf:o.data=.fields vs) (h1:vs[1]?=some .none):aW P w H h a (vx C od a):=
 {{(o),vs,e,hc,hd,hf,h1},{(o),e},λ_ _ ⟨o,vs,e,r⟩ k=>{o,vs,k o e,r}}
def Bv.ok (e:h.get? a=some o) (hc:o.cls=.ref C) (hd:o.dict=od) (hf:o.data=.fields vs):aW P w H h a (Bv C od a):=
 {{(o),vs,e,hc,hd,hf},{(o),e},λ_ _ ⟨o,vs,e,r⟩ k=>{o,vs,k o e,r}}
def XD.ok (n:h.Ns1 a mA) (r:∀f,dU (fs.lookup f) (mA f)):aW P w H h a (XD a fs):=
 {{(mA),n,r},let ⟨o,_,_,e,_⟩:=n;{(o),e},λ_ _ ⟨m,n,r⟩ k=>{m,n.at k,r}}
def vx.at' (ok:kQ P w H h) (e:H a=some (vx C od a)):∃o vs,h.get? a=some o/\o.cls=.ref C/\o.dict=od/\o.data=.fields vs/\vs[1]?=some .none:=(show aW P w H h a (vx C od a) from ok a _ e).1
def Bv.at' (ok:kQ P w H h) (e:H a=some (Bv C od a)):∃o vs,h.get? a=some o/\o.cls=.ref C/\o.dict=od/\o.data=.fields vs:=(show aW P w H h a (Bv C od a) from ok a _ e).1
def XD.at' (ok:kQ P w H h) (e:H a=some (XD a fs)):∃mA,h.Ns1 a mA/\∀f,dU (fs.lookup f) (mA f):=(show aW P w H h a (XD a fs) from ok a _ e).1
def Ga (r:∀f,dU (fs.lookup f) (mA f)):Within mA (fs.map (·.1)):=λy hy=>by
 cases q:fs.lookup y with
 | none=>exact absurd (dU.none_of (by rw[<-q];exact r y)) hy
 | some v=>
  obtain⟨k,e,hm⟩:∃k,k=y/\(k,v)∈fs:=by
   clear r hy
   induction fs with
   | nil=>cases q
   | cons p l ih=>
    let⟨k,x⟩:=p;rw[yg] at q;split at q
    ·rename_i z;cases q;exact{k,(wD.mp z).symm,zk}
    ·let⟨k',e,m⟩:=ih q;exact{k',e,zj _ m}
  exact zE.mpr {(k,v),hm,e}
def Fu {f:Str} {y:V} {u:wM} (ry:RelV y u) (r:∀g,dU (fs.lookup g) (mA g)) (g:Str):dU ((aG f y fs).lookup g) (if g=f then some u else mA g):=by
 rw[j6]
 by_cases q:g=f
 ·rw[yF q,yF q];exact ry
 ·rw[yE q,yE q];exact r g
end
def QP (K:yr) (ta tv:TE) (f:Str):TS:=λD U H=>tv U H λy H1=>ta U H1 λx H2=>∃a C S,x=.ref a/\H2 a=some (vx C none a)/\vy K C S/\b5 K C f/\∀dx,H2 dx=none->dx≠a->
 D.nx U (upd (upd H2 dx (XD dx [(f,y)])) a (vx C (some dx) a))
def QO (K:yr) (ta tv:TE) (f:Str):TS:=λD U H=>tv U H λy H1=>ta U H1 λx H2=>∃a C S dx fs,x=.ref a/\H2 a=some (vx C (some dx) a)/\H2 dx=some (XD dx fs)/\vy K C S/\b5 K C f/\⇑fs<1000/\
 D.nx U (upd H2 dx (XD dx (aG f y fs)))
section
variable {X:Cx} {o value:Expr} {f:Str} {pos pos':Pos} {ta tv:TE}
def Ot (ha:PE X o ta) (hv:PE X value tv) (hs:swapsWith value (some (.Attribute o f pos')) pos.line X.env=pure false):PS X (.Assign [.Attribute o f pos'] value pos) (QP X.K ta tv f):=by
 intro pins s U H D I h;refine plainObj_wpAny_Assign_Attribute (bR (hv pins s U H _ I h) λu s1 ⟨y,H1,I1,ry,q⟩=>bR (ha pins s1 U H1 _ I1 q) λov s2 ⟨x,H2,I2,rx,a,C,S,ex,ea,c,n,q2⟩=>?_) hs;subst ex;obtain rfl:ov=Value.ref a:=rx;let⟨ob,vs,e,hc,hd,hf,h1⟩:=vx.at' I2.aT ea;let hn:H2 ↑s2=none:=I2.aT.fresh (zh _);let na:↑s2≠a:=z9 (yo e);refine HE I2.ie e hc hf hd c n λh' e' n' k=>{U,_,?_,q2 _ hn na}
 let⟨od,es,ep,eo,r⟩:=id n';let nfr:od.isFreed=false:=(Heap.get?_some_iff.mp eo).2;let p1:(s2.heap.push od).get? ↑s2=some od:=yn _ nfr;let r0:∀g,dU ([(f,y)].lookup g) (if g=f then some u else none):=λg=>by
  have:=Fu (fs:=[]) (mA:=λ_=>none) (f:=f) ry (λ_=>True.intro) g;exact this
 let I3:=I2.laid (a:=↑s2) (o:=XD ↑s2 [(f,y)]) (h':=s2.heap.push od) (t':=s2.toks) (λb u q=>yk _ q) (zh _) (XD.ok (n'.at λo z=>by rw[eo] at z;cases z;exact p1) r0);let ea3:upd H2 ↑s2 (XD ↑s2 [(f,y)]) a=some (vx C none a):=by rw[ao (Ne.symm na)];exact ea
 refine I3.write (x:=a) (e:=a) (by rw[ea3];exact True.intro) (.inl rfl) (λb v z q=>?_) {_,e'} (vx.ok e' hc rfl hf h1);rcases Heap.get?_push_cases q with⟨rfl,rfl⟩ | q
 ·exact eo
 ·exact k b v z q
def Oq (ha:PE X o ta) (hv:PE X value tv) (hs:swapsWith value (some (.Attribute o f pos')) pos.line X.env=pure false):PS X (.Assign [.Attribute o f pos'] value pos) (QO X.K ta tv f):=by
 intro pins s U H D I h;refine plainObj_wpAny_Assign_Attribute (bR (hv pins s U H _ I h) λu s1 ⟨y,H1,I1,ry,q⟩=>bR (ha pins s1 U H1 _ I1 q) λov s2 ⟨x,H2,I2,rx,a,C,S,dx,fs,ex,ea,ed,c,n,l,q2⟩=>?_) hs;subst ex;obtain rfl:ov=Value.ref a:=rx;let⟨ob,vs,e,hc,hd,hf,h1⟩:=vx.at' I2.aT ea;let⟨mA,n1,r⟩:=XD.at' I2.aT ed;refine J3 I2.ie e hc hf hd n1 (Ga r) (by rw[za];exact l) c n λh' n' sb=>{U,_,?_,q2}
 let hd':∃o,h'.get? dx=some o:=let ⟨o,_,_,z,_⟩:=n';{(o),z};exact I2.write (x:=dx) (e:=dx) (by rw[ed];exact True.intro) (.inl rfl) (λb v z q=>(sb.2 b z).trans q) hd' (XD.ok n' (Fu ry r))
end
def Oo (K:yr):List V->Hp->VK->Prop:=λxs H Q=>∃(x D:wV) (od:Option wV) (c:V) (u:wM) (b:Bool),xs=[.ref x,c]/\H x=some (Bv D od x)/\gS K D/\((∃C,c=.ref C/\u=.ref C)\/∃n,c=.ty n/\u=.type n)/\PySem.W.kitOne K (.ref D) u=some b/\Q (.bl b) H
def MA (K:yr):List V->Hp->VK->Prop:=λxs H Q=>∃(x D p:wV) (od:Option wV) (cs:List wV) (b:Bool),xs=[.ref x,.ref p]/\H x=some (Bv D od x)/\gS K D/\H p=some (.tup (cs.map V.ref))/\PySem.W.kitAny K (.ref D) (cs.map Value.ref)=some b/\Q (.bl b) H
def QM (K:yr) (ta:TE) (f:Str):TE:=λU H Q=>ta U H λx H1=>∃a C dx fs v,x=.ref a/\H1 a=some (Bv C (some dx) a)/\H1 dx=some (XD dx fs)/\gS K C/\PySem.W.hasDictIn K C=true/\b5 K C f/\fs.lookup f=some v/\Q v H1
section
variable {X:Cx} {e:Expr} {f:Str} {pos:Pos} {ta:TE}
def LK (he:PE X e ta) (hb:attributeBase e f X.env (eval e X.env)=eval e X.env):PE X (.Attribute e f pos) (QM X.K ta f):=by
 intro pins s U H Q I h;refine F2 hb (bR (he pins s U H _ I h) λu s1 zz=>?_);let⟨x,H1,I1,rx,a,C,dx,fs,v,ex,ea,ed,Z,hh,n,l,q⟩:=zz;subst ex;obtain rfl:u=Value.ref a:=rx;let⟨ob,vs,eo,hc,hd,hf⟩:=Bv.at' I1.aT ea;let⟨mA,n1,r⟩:=XD.at' I1.aT ed;let⟨u',hu,ru⟩:=dU.some_of (v:=v) (o:=mA f) (by rw[<-l];exact r f);exact L6 I1.ie Z eo hc (by unfold PySem.W.notCls;rw[hf]) hd n1 hh n hu (uZ ru) {v,H1,I1.tok _,ru,q}
def vj:cZ X (.builtin "isinstance") (Oo X.K):=by
 intro pins s U H xs us Q I r h;let⟨x,D,od,c,u,b,rfl,hx,Z,hc,e,q⟩:=h;cases r with
 | cons r rr=>
  cases rr with
  | cons r' rr=>
   cases rr;cases r;let hu:∀v,RelV c v->v=u:=by
    rintro v rv;rcases hc with⟨C,rfl,rfl⟩ | ⟨n,rfl,rfl⟩
    ·exact rv
    ·exact rv
   cases hu _ r';let⟨o,vs,e1,e2,_⟩:=Bv.at' I.aT hx;exact y0 (FK Z) I.ie {(o),e1,e2} e (λz=>nomatch z) λtk=>{.bl _,H,I.tok tk,rfl,q}
def EW:cZ X (.builtin "isinstance") (MA X.K):=by
 intro pins s U H xs us Q I r h;let⟨x,D,p,od,cs,b,rfl,hx,Z,hp,e,q⟩:=h;cases r with
 | cons r rr=>
  cases rr with
  | cons r' rr=>
   cases rr;cases r;cases r';let⟨_,its,rv,o,ho,hoc,n,hod⟩:=(show aW X.prog X.w H s.heap p (.tup _) from I.aT p _ hp)
   let eits:=ux rv;subst eits;let⟨oc,od,oda,osl⟩:=o;dsimp only at hoc hod;subst hoc hod;let⟨ox,vs,e1,e2,_⟩:=Bv.at' I.aT hx;exact PySem.W.kia_tup (FK Z) I.ie {(ox),e1,e2} ho e (λz=>nomatch z) λtk=>{.bl _,H,I.tok tk,rfl,q}
end
def Mj (C:wV) (sp:Sp) (E:XK) (t:TA):TE:=λU H Q=>t U H λvs H1=>⇑vs<=sizeLine/\∀x,H1 x=none->sp (.ref x::vs) (upd H1 x (vx C none x)) (λv H2=>v=.aU/\Q (.ref x) H2) E
section
variable {X:Cx} {CX:DC} {k:Nat} {f C S:wV} {fd:wU} {ps:List Str} {sp:Sp} {E:XK} {x:Str} {p pos:Pos} {e:Expr} {es:List Expr} {t:TA}
def Gw {pins:List (wV×Obj)} {U:St} {H:Hp} {s:wN} {Q:VK} {us:List wM} {vs:List V} (M:Br X.K C S f) (F:bL X.prog X.w X.K X.mg X.base CX k f fd ps sp) (hr:df (k+1) X.A) (hb:Binds X.K fd ps [])
  (hx:Passes CX X E) (I:Inv X pins U H s) (r:Vals vs us) (hz:⇑vs<=sizeLine)
  (h:∀x,H x=none->sp (.ref x::vs) (upd H x (vx C none x)) (λv H2=>v=.aU/\Q (.ref x) H2) E):wpAny (model X.prog X.w) X.A (call (.ref C) us) (EP X pins U Q) X.xe s:=by
 let hq:=h (↑s+1) (I.aT.fresh (xI _));let I2:=I.laid (a:=↑s+1) (o:=vx C none (↑s+1)) (h':=l4 s.heap C us) (t':=s.toks) (λb u q=>mY q) (xI _) (vx.ok vf rfl rfl rfl rfl);let r2:Vals (V.ref (↑s+1)::vs) (Value.ref (↑s+1)::us):=.cons rfl r;let hl:⇑(Value.ref (↑s+1)::us)=⇑ps:=by
  let e:=⇑r2;rw[F.len _ _ _ _ hq] at e;exact e.symm
 let hb2:=hb _ (Value.ref (↑s+1)::us) I2.ie (by rw[zQ];exact hl);rw[zQ] at hb2;refine J5 M I.ie (by rw[<-⇑r];exact hz) (wpAny_call (xA (F.run _ X.stack _ _ {Value.ref (↑s+1)::us,[]} (Value.ref (↑s+1)::us) _ _ E (hr.make C us []) (I2.GY.make C us []) hb2 r2 hq) λr s' hq'=>?_));cases r with
 | error e=>exact hx pins U _ _ e s' I2 hq'
 | ok fl=>
  cases fl with
  | ret u=>
   let⟨v,H',I3,rv,ev,q3⟩:=I2.after hq';subst ev;exact{rv,{V.ref (↑s+1),H',I3,rfl,q3}}
  | next=>exact False.elim hq'
  | brk=>exact False.elim hq'
  | cont=>exact False.elim hq'
def ID (M:Br X.K C S f) (F:bL X.prog X.w X.K X.mg X.base CX k f fd ps sp) (hr:df (k+1) X.A) (hg:Gl X x) (hm:X.mg x=some (.ref C)) (hb:Binds X.K fd ps []) (hx:Passes CX X E)
  (ha:PA X (e::es) t) (hdb:(x == ("__debug__": Str))=false<|>qb_) (he:starEach (e::es) X.env=(false,eval e X.env)::starEach es X.env<|>qe_) (hpl:(backTo pos (starEach es X.env)).any (·.1)=false<|>qe_) :
  PE X (.Call (.Name x p) (e::es) [] pos) (Mj C sp E t):=by
 intro pins s U H Q I h;refine y8 (d6 I hg hm ?_ hdb);refine wG (h₀:=X.base) I.ok.mod.KW M.kp (bR (ha pos pins s U H _ I h) λus s1 ⟨vs,H1,I1,r,hz,q⟩=>{I1.ie,?_}) he hpl;exact Gw M F hr hb hx I1 r hz q
end
def rem (H:Hp) (a:wV):Hp:=λb=>if b=a then none else H b
def lS {H:Hp} {a b:wV} (h:b≠a):rem H a b=H b:=yE h
def Ik {H:Hp} {a b:wV} {o:HO} (h:rem H a b=some o):b≠a/\H b=some o:=by
 unfold rem at h;split at h
 ·cases h
 ·exact{‹_›,h}
def J2 (P:wO) (w:wQ):DC:=λouter H s E e s'=>∃(a:wV) (cls:wM) (od:Option wV) (B:wW) (H':Hp),e=.ref a/\s'.os=s.os/\AllBare s'.gens/\Fl B outer a cls od .none s'.heap/\DD P w (gr outer) H H' s.heap B s'.heap/\E cls od H'
def IK {P:wO} {w:wQ} {X:Cx}:Passes (J2 P w) X E0:=λ_ _ _ _ _ _ _ ⟨_,_,_,_,_,_,_,_,_,_,z⟩=>z.elim
def Ec {M:Model} {A:wR} {E:wM->wN->Prop} {s:wN} {env:Env} {x:Sem wM} {Q:Flow->wN->Prop} (hh:A.handled=none)
  (h:wpAny M A x (λv s1=>∃(e C:wV) (od:Option wV) (vs:Array wM) (sl:Array (Option wM)),v=.ref e/\s1.heap.get? e=some {.ref C,od,.fields vs,sl}/\vs[1]?=some .none/\PySem.W.Looks M s1.heap (isSubtype (.ref C) (.type "BaseException")) true/\(∃oC,s1.heap.get? C=some oC/\oC.cls=.type "type")/\E (.ref e) s1) E s) :
  wpAny M A (raiseStmt env (some x) none) Q E s:=by
 unfold raiseStmt;refine yj (yV h (λv s1 h1=>?_) λ_ _ z=>z);let⟨e,C,od,vs,sl,rfl,he,h1,L1,⟨oC,hC,hcC⟩,hE⟩:=h1;let⟨cc,cd,cda,csl⟩:=oC;dsimp only at hcC;subst hcC;let⟨hp,g,d,tk,os⟩:=s1;let f1:∀{Q':wM->wN->Prop} {A':wR},Q' .none ⟨hp,g,d,tk,os⟩->wpAny M A' (field (.ref e) 1) Q' E ⟨hp,g,d,tk,os⟩:=λq=>yR he rfl h1 q
 repeat (first | with_reducible refine wpAny_loadPart_at he ?_ | with_reducible refine wpAny_loadPart_at hC ?_ | (with_reducible refine L1.at ?_) | (with_reducible refine f1 ?_) | wp_step)
 exact wpAny_raiseNew_none hh hE
def Kg (K:yr) (H₀:Hp) (te:TE) (E:XK):TS:=λ_ U H=>te U H λv H1=>∃a C dx,v=.ref a/\H1 a=some (vx C (some dx) a)/\H₀ a=none/\(∃S f,Br K C S f)/\E (.ref C) (some dx) (rem H1 a)
section
variable {P:wO} {w:wQ} {K:yr} {mg:Str->Option wM} {base:wW} {N:List Str} {qual:Str} {scope:Scope} {f:wV} {cdv:wM} {A:wR} {outer:List Env} {s₀:wN} {H₀:Hp} {E:XK}
def GA {x:Expr} {te:TE} {pos:Pos} (he:PE (fq (J2 P w) P w K mg base N qual scope f cdv A outer s₀ H₀ E) x te) :
  PS (fq (J2 P w) P w K mg base N qual scope f cdv A outer s₀ H₀ E) (.Raise (some x) none pos) (Kg K H₀ te E):=by
 intro pins s U H D I h;rw[arm_exec_Raise];refine yj (wpAny_standAt (Ec (I.ok.hd rfl) (yj (bR (he pins s U H _ I h) λu s1 ⟨v,H1,I1,rv,a,C,dx,ev,ea,ha0,⟨S,fI,hB⟩,q⟩=>yj (wpAny_standAt (ym ?_))))));subst ev;obtain rfl:u=Value.ref a:=rv;let⟨ob,vs,hx,hc,hd,hf,h1⟩:=vx.at' I1.aT ea;let⟨oc,odd,oda,osl⟩:=ob;dsimp only at hc hd hf;subst hc hd hf;let⟨_,_,_,_,_,_,_,_,_,_,_,_,_,_,_,hCl⟩:=hB.obj;refine{a,C,some dx,vs,osl,rfl,hx,h1,PySem.W.looks_mroIn I1.ie hB.cls.mB,{_,I1.ie _ _ hCl,rfl},?_};show wpAny (model P w) (A.deeper (envOfC qual scope ↑s₀ f cdv)) (leaving (envOfC qual scope ↑s₀ f cdv) (.ref a)) (λ_ s''=>J2 P w outer H₀ s₀ E (.ref a) s'') (λe' s''=>J2 P w outer H₀ s₀ E e' s'') s1;let hfr:gr (envOfC qual scope ↑s₀ f cdv::outer)=↑s₀::gr outer:=rj rfl;let hst:s1.heap.FunFrames base (envOfC qual scope ↑s₀ f cdv::outer):=I1.stack;let hin:∀env∈(envOfC qual scope ↑s₀ f cdv::outer),∀b,env.frame=some b->b∈a::gr (envOfC qual scope ↑s₀ f cdv::outer):=λenv he b hf=>zj _ (wI.mpr {(env),he,hf});let hl:=PySem.W.funFrames_hide (as:=a::gr (envOfC qual scope ↑s₀ f cdv::outer)) hst hin;let jC:∀b:wV,b∉(fq (J2 P w) P w K mg base N qual scope f cdv A outer s₀ H₀ E).ex:=λb z=>absurd (show b∈([]:List wV) from z) (by simp);let n0:∀o,s₀.heap.get? a≠some o:=λo e=>by
  have:=I1.base.free a o e ha0 (jC a);rw[ea] at this;cases this
 let low:∀b o,s₀.heap.get? b=some o->b≠↑s₀:=λb o e z=>absurd (yo e) (by rw[z];exact zY _);let nin:∀b o,s₀.heap.get? b=some o->b∉gr outer->b∉a::gr (envOfC qual scope ↑s₀ f cdv::outer):=λb o e n z=>by
  rw[hfr] at z;rcases zA.mp z with z | z
  ·subst z;exact n0 o e
  ·rcases zA.mp z with z | z
   ·exact low b o e z
   ·exact n z
 unfold leaving;refine yj (Ju (B:=PySem.W.hideAll s1.heap (a::gr (envOfC qual scope ↑s₀ f cdv::outer))) I1.ok.frames hl rfl hx (λb o q=>PySem.W.of_hideAll _ q) (PySem.W.hideAll_none _ zk) rfl h1 λh2 x2 u2=>oh (s:={s1 with heap:=h2}) x2 λh3 x3 u3=>?_);let nt:∀b o,H1 b=some o->(∀φ,o≠.ext φ)->b≠a:=λb o e n z=>by subst z;rw[ea] at e;cases e;exact n _ rfl
 refine{a,.ref C,some dx,_,rem H1 a,rfl,I1.os,I1.bare,{(x3.st),x3.new,x3.fr.2.2,x3.ob},{λb o q n hb=>wx _ (I1.base.keep b o q n hb (jC b)) (nin b o q hb),λb o q n hb=>?_,λb o q n=>?_,λb o q hb=>?_,λb xs e=>?_,λb o u e=>?_,λb ps e=>?_,λb o q=>?_,x3.st},q}
 ·let⟨sl,e1⟩:=I1.base.slot b o q n hb (jC b)
  let⟨_,o1,e2,nd⟩:=I1.ok.kf.mem hb;let e2':s₀.heap.get? b=some o1:=e2;rw[q] at e2';cases e2';let⟨sl2,e4⟩:=u2 b _ e1 nd;let⟨sl3,e5⟩:=u3 b _ e4 nd;exact{(sl3),e5}
 ·unfold rem
  split
  ·rfl
  ·exact I1.base.free b o q n (jC b)
 ·let⟨o',e1⟩:=I1.base.there b o q (jC b)
  exact{o',wx _ e1 (nin b o q hb)}
 ·let e1:=I1.base.jA b xs e
  rw[lS (nt b _ e1 λφ z=>nomatch z)];exact e1
 ·let e1:=I1.base.iE b o u e
  rw[lS (nt b _ e1 λφ z=>nomatch z)];exact e1
 ·let⟨m,e1⟩:=I1.base.jB b ps e
  exact{m,by rw[lS (nt b _ e1 λφ z=>nomatch z)];exact e1}
 ·let⟨ne,q⟩:=Ik q
  refine(I1.aT b o q).gs (λc u hc e1=>wx _ e1 λz=>?_) (λc z=>by rw[lS (nt c _ z λφ y=>nomatch y)];exact z) λc xs z=>by rw[lS (nt c _ z λφ y=>nomatch y)];exact z
  rcases zA.mp z with z | z
  ·rcases hc with hc | hc
   ·exact ne (hc▸z)
   ·exact nt c _ hc (λφ y=>nomatch y) z
  ·let n:=I1.iP c z
   rcases hc with rfl | hc
   ·rw[q] at n;cases n
   ·rw[hc] at n;cases n
def Hm.QR {x:Str} {st:Stmt} {fd:wU} {ps:List Str} {k:Nat} {sp:Sp} (F:Hm K x qual st f fd) (S:cQ N ps (aC st)) (len:∀vs H Q E,sp vs H Q E->⇑vs=⇑ps)
  (hbody:∀(cdv:wM) (A:wR) (outer:List Env) (s:wN) (H:Hp) (vs:List V) (Q:VK) (E:XK),df k (A.deeper (envOfC qual (aC st) ↑s f cdv))->sp vs H Q E->
   ∃t,uk (fq (J2 P w) P w K mg base N qual (aC st) f cdv A outer s H E) (aV st) t/\t {nx:=λ_ H'=>Q .aU H',rt:=Q} (start N vs) H):bL P w K mg base (J2 P w) (k+1) f fd ps sp:=by
 let⟨oc,od,kV,doc,pm,an,cdv,ct,osl,rfl,lk,hcd⟩:=F.ex;exact Jt lk hcd S len λA outer s H vs Q E hr hsp=>hbody cdv A outer s H vs Q E hr hsp
end
def N2 (sp:Sp) (t:TA) (C:wV) (j:Nat) (th:TS):TS:=λD U H=>t U H λvs H1=>sp vs H1 (λ_ H2=>D.nx U H2) λcls od H2=>cls=.ref C/\∀a,H2 a=none->th (PH j D) (U.set j (some (.ref a))) (upd H2 a (Bv C od a))
section
variable {X:Cx} {k:Nat} {f:wV} {fd:wU} {ps:List Str} {sp:Sp} {fx cn n:Str} {p pos cpos pa np hpos:Pos} {e₀:Expr} {es:List Expr} {t:TA} {j:Nat} {C S:wV} {bmS:List wM} {newIdS:String} {b₀:Stmt} {suite:List Stmt} {th:TS}
def Kx (F:bL X.prog X.w X.K X.mg X.base (J2 X.prog X.w) k f fd ps sp) (hr:df k X.A) (hg:Gl X fx) (hm:X.mg fx=some (.ref f)) (hk:PySem.W.keepIn X.K (.ref f)=true) (hb:Binds X.K fd ps []) (ha:PA X.Bt (e₀::es) t)
  (hc:X.calm=true) (hN:X.N.Nodup) (hj:X.N[j]?=some n) (hnl:X.env.scope.names.lookup n=some .local) (hgc:Gl X cn) (hS0:PySem.W.nsIn X.K mainGlobals cn=some (some (.ref S))) (hQS:PySem.W.excIn X.K S bmS newIdS=true)
  (hSB:PySem.W.mroIn X.K S (.type "BaseException")=some true) (hup:PySem.W.mroIn X.K C (.ref S)=some true) (hstk:X.stack=X.env::X.outer) (hfrm:X.env.frame=some X.env.locals) (hex:X.ex=[])
  (hsu:∀e,uk (X.held e).Bt (b₀::suite) th)
  (hdb:(fx == ("__debug__": Str))=false<|>qb_) (hdc:(cn == ("__debug__": Str))=false<|>qb_) (he:starEach (e₀::es) X.env=(false,eval e₀ X.env)::starEach es X.env<|>qe_) (hpl:(backTo cpos (starEach es X.env)).any (·.1)=false<|>qe_)
  (hs:swapsWith (.Call (.Name fx p) (e₀::es) [] cpos) none pa.line X.env=pure false<|>qe_) :
  PS X (.Try [.Expr (.Call (.Name fx p) (e₀::es) [] cpos) pa] [.ExceptHandler (some (.Name cn np)) (some n) (b₀::suite) hpos] [] [] pos) (N2 sp t C j th):=by
 intro pins s U H D I h;let O:OwnCls cn S bmS newIdS X.mg X.base:=iZ X.prog I.ok.mod hS0 hQS;let⟨ddS,cdS,slS,hSl⟩:=ES hQS;refine wpAny_Try_except (wpAny_execs_cons ?_);refine wpAny_Expr_any ?_ I.quiet hs;refine y8 (d6 I hg hm ?_ hdb);let hA:wpAny (model X.prog X.w) X.A (spliced (backTo cpos (starEach (e₀::es) X.env))) (AP X.Bt pins U _) (λ_ _=>False) s:=ha cpos pins s U H _ (I.kR _) h;refine wG (h₀:=X.base) I.ok.mod.KW hk (yV hA (λus s1 ⟨vs,H1,I1',r,q⟩=>{I1'.ie,?_}) λ_ _ z=>z.elim) he hpl;let I1:Inv X pins U H1 s1:=I1'.dX;let hl:⇑us=⇑ps:=by rw[<-⇑r];exact F.len _ _ _ _ q
 refine wpAny_call (xA (F.run X.A X.stack s1 H1 {us,[]} us vs _ _ hr I1.GY (by have:=hb s1 us I1.ie (by rw[zQ];exact hl);rw[zQ] at this;exact this) r q) λrr s' hq=>?_);cases rr with
 | ok fl=>
  cases fl with
  | ret u=>
   let⟨v,H2,I2,r2,q2⟩:=I1.after hq;exact xU (xU {_,H2,I2,q2})
  | next=>exact False.elim hq
  | brk=>exact False.elim hq
  | cont=>exact False.elim hq
 | error ev=>
  let⟨a,cls,od,B,H',rfl,os,bare,fl,fly,⟨rfl,q2⟩⟩:=hq;let AG:∀b∈gr X.stack,H1 b=none:=I1.iP;let nf:∀{hh:wW},Heap.FunFrames hh B X.stack->∀b∈gr X.stack,∃o,hh.get? b=some o/\∀vs,o.data≠.fields vs:=λhF b hb=>(hF.mem hb).2;let back:∀(hh:wW),DD X.prog X.w (gr X.stack) H1 H' s1.heap B hh->Inv X pins U H' {s' with heap:=hh}:=λhh fy=>
   I1.F0 (s':={s' with heap:=hh}) (ch:=[]) os (fy.un AG) (fy.aT.kept fy.gs) bare λb z=>absurd z (by simp)
  let hfr:X.A.frames=some (X.env::X.outer):=by rw[<-hstk];exact I1.ok.frames
  refine K3 hfr hfrm (by rw[<-hstk];exact fl) λh4 x4 up4=>?_;refine oh (s:={s' with heap:=h4}) x4 λh5 fl5 up5=>?_;let fl5':Fl B X.stack a (.ref C) od .none h5:=by rw[hstk];exact fl5
  let fy5:DD X.prog X.w (gr X.stack) H1 H' s1.heap B h5:=fly.on (up4.trans up5) fl5.st (nf fl.fr);let I5:=back h5 fy5;let⟨ob,_,_,_,_,hob,hobc,_⟩:=fl5'.ob;refine wpAny_handleBy_cons (codeAny_handlers_test (d6 (X:=X.held (.ref a)) (I5.held _) hgc O.bound ?_ hdc)) (by intro q;cases q);refine K5 I5.ie hob hobc hSl hSB hup (codeAny_handlers_suite_as ?_);refine oh (s:={s' with heap:=h5}) fl5' λh6 fl6 up6=>?_;let fy6:DD X.prog X.w (gr X.stack) H1 H' s1.heap B h6:=fy5.on up6 fl6.st (nf fl5'.fr);let I6:=back h6 fy6;let⟨oe,ws,_,_,_,hoe,hoec,hoei,hoed,_⟩:=fl6.ob;let Bn:B.get? a=none:=fl6.new;let noFr:a∉gr X.stack:=λz=>by
   let⟨o,e1,e2⟩:=nf fl6.fr a z;rw[hoe] at e1;cases e1;exact e2 _ hoed
  let nL:a≠X.env.locals:=λz=>noFr (by rw[hstk,rj hfrm,z];exact zk);let nH:H' a=none:=by
   cases e:H' a with
   | none=>rfl
   | some u=>let⟨o,e1⟩:=(fy6.aT a u e).here;rw[Bn] at e1;cases e1
  let n0:X.s₀.heap.get? a=none:=by
   cases e:X.s₀.heap.get? a with
   | none=>rfl
   | some o=>
    let⟨o',e1⟩:=I1.base.there a o e (by rw[hex];simp);let⟨o2,e2⟩:=fy6.there a o' e1 noFr;rw[Bn] at e2;cases e2
  let nC:∀y c,X.env.cells.lookup y=some c->c≠a:=λy c e z=>by
   let⟨v,o,ho,hd⟩:=I6.cell y c e;rw[z,hoe] at ho;cases ho;rw[hoed] at hd;cases hd
  let nP:∀p∈X.pn++pins,p.1≠a:=λp hp z=>by
   let⟨e,n,ne,nf',d⟩:=I1.pin p hp;have:=fy6.keep p.1 p.2 e n (by rw[z];exact noFr);rw[z,Bn] at this;cases this
  let I7:Inv X pins U (upd H' a (Bv C od a)) {s' with heap:=h6}:=I6.NZ nH n0 nL nC nP (Bv.ok hoe hoec hoei hoed);refine ig (X:=X.held (.ref a)) (I7.held _) hN hj (.inl hnl) (v:=.ref a) rfl (λs8 I8=>?_) (.inr hnl);refine yV (hsu (.ref a) pins _ _ _ (PH j D) (I8.kR _) (q2 a nH)) (λfl s9 z=>?_) λ_ _ z=>z.elim;let z':SP X pins (PH j D) fl s9:=SP.gU I.ok.hd (SP.dX z);let hp:(X.env.scope.kind == .class||(X.env.scope.kind == .module&&X.env.locals != X.env.globals))=false:=by rw[I.ok.kind];rfl
  let fin:∀U' H',Inv X pins U' H' s9->∀(Q:Unit->wN->Prop),(∀s10,Inv X pins (U'.set j none) H' s10->Q .unit s10)->wpAny (model X.prog X.w) X.A (do bindName X.env n .none;unbindBehindTheSuite X.env n hpos) Q X.xe s9:=λU' H' I9 Q hQ=>by
   let⟨m,hm,hml⟩:=id I9.loc;refine wpAny_nameGoes_keeps hnl hm hp λh' v hn hs=>hQ _ (I9.Ka hN hj hml hn hs)
  cases fl with
  | next=>let⟨U',H',I9,q⟩:=z';exact fin U' H' I9 _ λs10 I10=>{_,_,I10,q}
  | brk=>let⟨U',H',I9,q⟩:=z';exact fin U' H' I9 _ λs10 I10=>{_,_,I10,q}
  | cont=>let⟨U',H',I9,q⟩:=z';exact fin U' H' I9 _ λs10 I10=>{_,_,I10,q}
  | ret u=>let⟨v,U',H',I9,r,q⟩:=z';exact fin U' H' I9 _ λs10 I10=>{v,_,_,I10,r,q}
end
structure LY (K:yr) (D:wV):Prop where
 self:PySem.W.subIn K (.ref D) (.ref D)=some true
 ve:PySem.W.subIn K (.ref D) (.type "ValueError")=some true
 hd:PySem.W.hasDictIn K D=true
 np:b5 K D "place"
 nw:b5 K D "word"
def Jg {K:yr} {D a b c d e:wV} (F:LY K D) (na:jz K D a) (nb:jz K D b) (nc:jz K D c) (nd:jz K D d) (ne:jz K D e):PySem.W.kitAny K (.ref D) ([a,b,c,d,e].map Value.ref)=some false:=
 j9 (na.OG F.self) (j9 (nb.OG F.self) (j9 (nc.OG F.self) (j9 (nd.OG F.self) (j9 (ne.OG F.self) KU))))
end L2
namespace K22
open PySem L2 Lm Sc
def top (i:Nat):Stmt:=PySem.Challenge.pw_partsmith_k13_lengths_of_bars.main.body.getD i (.Pass {0,0,0,0})
abbrev sU:=top 10
abbrev sR:=top 11
abbrev nI:=top 14
abbrev sW:=top 15
abbrev Kp:=top 16
abbrev Gs:=top 17
abbrev lD:=top 18
abbrev vY:=top 24
abbrev lN:=top 25
abbrev BR:=top 26
abbrev DW:=top 36
abbrev D3:=top 37
abbrev BP:=top 38
abbrev vX:=top 39
abbrev sP:=top 40
abbrev BO:=top 41
abbrev BN:=top 42
abbrev v5:=top 43
abbrev DX:=top 44
abbrev DY:=top 45
abbrev sT:=top 46
abbrev my:=top 47
abbrev vW:=top 48
abbrev DZ:=top 49
abbrev sQ:=top 50
abbrev BS:=top 51
abbrev vZ:=top 52
abbrev sS:=top 53
abbrev BQ:=top 54
abbrev pf:=top 56
abbrev lM:=top 57
abbrev Gu:=top 58
abbrev D1:=top 59
abbrev sO:=top 60
abbrev qu:=top 61
abbrev BU:=top 62
abbrev BV:=top 63
abbrev qz:=top 64
abbrev BX:=top 65
abbrev BW:=top 66
abbrev qx:=top 75
abbrev sM:=top 76
abbrev qy:=top 77
abbrev D0:=top 78
abbrev qw:=top 79
abbrev lO:=top 80
abbrev sN:=top 81
abbrev BY:=top 82
abbrev qt:=top 83
abbrev v8:=top 84
abbrev sV:=top 85
abbrev qv:=top 86
abbrev v7:=top 87
abbrev lP:=top 89
abbrev D4:=top 90
abbrev Gv:=top 91
abbrev mx:=top 92
abbrev qA:=top 94
abbrev wX:=top 95
abbrev sY:=top 96
abbrev D6:=top 97
abbrev lQ:=top 98
abbrev wZ:=top 99
abbrev wY:=top 100
abbrev mz:=top 101
abbrev v9:=top 102
abbrev sX:=top 103
abbrev D7:=top 104
abbrev kU:=top 105
abbrev Od:=top 106
abbrev mC:=inClass (top 74) 0
abbrev ji:=inClass (top 3) 0
structure Df (K:yr) (mg:Str->Option wM) (x:Str) (st:Stmt) (a:wV) (d:wU) (ps:List Str):Prop where
 F:Hm K x x st a d
 g:mg x=some (.ref a)
 b:Binds K d ps []
structure Pj (K:yr) (x y:Str) (st:Stmt) (a:wV) (d:wU) (ps:List Str):Prop where
 F:Hm K x y st a d
 b:Binds K d ps []
set_option genInjectivity false in
set_option genSizeOf false in
structure Txt (K:yr) (mg:Str->Option wM) where
 (uf ue oq ug Li Hg ic Bh mi Dq E2 E7 Dp Bg ud Dn Dm Bi E3 E4 eZ cP fM jb eX gQ fN eY gP pG r9 Hh E6 uc r8 Dr Ds si Dv Du sd ua se E5 eD cE eW gR eB fP e9 eC fO sj E8 Hi m9 sk Bl ui E9 mj fQ Bo Bm Bj uh Fb lh OZ jc de cY cH fT mG fu aS fL kO pS ja kM:wV)
 (tS tP oj tU Lc G1 hX AR l5 C4 EC EK C2 AQ tN C1 C0 AU EE EF tR m3 AO EG tO C5 AS tQ C3 pC ED G5 EJ tM rE C6 C7 rK C9 C8 rH tK rJ EH rG l6 tL Dc rD AW tT rF AV EI EL G6 mZ rL AY tW EM l7 fK A0 AZ AX tV EN kZ JH m4 jx:wU)
 (Gk nj su qd sv oW vD qg ni qh oX qi vE qf lK BB vG vF qe:Tok)
 b6:Df K mg "read_number" sU uf tS ["text","most"]
 dP:Df K mg "read_signed" sR ue tP ["text","most"]
 d9:Df K mg "common_divisor" nI oq oj ["one","other"]
 cW:Df K mg "made_length" sW ug tU ["top","bottom"]
 added:Df K mg "added" Kp Li Lc ["one","other"]
 vV:Df K mg "shorter" Gs Hg G1 ["one","other"]
 cU:Df K mg "read_length" lD ic hX ["text"]
 f9:Df K mg "read_pitch" vY Bh AR ["fifths_text","steps_text"]
 cq:Df K mg "read_item_length" lN mi l5 ["text"]
 nN:Df K mg "read_item" BR Dq C4 ["text"]
 words_of:Df K mg "words_of" DW E2 EC ["row"]
 bY:Df K mg "all_read" D3 E7 EK ["values"]
 c6:Df K mg "read_name" BP Dp C2 ["word"]
 bN:Df K mg "read_plain" vX Bg AQ ["word"]
 gy:Df K mg "read_within" sP ud tN ["word","lowest","highest"]
 nM:Df K mg "read_time" BO Dn C1 ["word"]
 nK:Df K mg "read_turn" BN Dm C0 ["fifths_word","steps_word"]
 lT:Df K mg "read_metre" v5 Bi AU ["word"]
 qG:Df K mg "read_key" DX E3 EE ["word"]
 qH:Df K mg "read_end" DY E4 EF ["word"]
 gB:Df K mg "read_player" sT eZ tR ["words"]
 dC:Df K mg "read_instrument" my cP m3 ["words"]
 iT:Df K mg "read_staff" vW fM AO ["words"]
 mF:Df K mg "read_bar" DZ jb EG ["words"]
 gz:Df K mg "read_upbeat" sQ eX tO ["words"]
 kC:Df K mg "read_hold" BS gQ C5 ["words"]
 iU:Df K mg "read_notes" vZ fN AS ["words"]
 gA:Df K mg "read_repeat" sS eY tQ ["words"]
 kB:Df K mg "read_jump" BQ gP C3 ["words"]
 hV:Df K mg "is_score_word" pf pG pC ["word"]
 qF:Df K mg "read_row" lM r9 ED ["words"]
 AI:Df K mg "ends_of" Gu Hh G5 ["repeat"]
 rA:Df K mg "ends_fit" D1 E6 EJ ["repeat"]
 jT:Df K mg "repeat_fits" sO uc tM ["repeats","repeat"]
 fE:Df K mg "repeat_round" qu r8 rE ["repeats","bar"]
 nW:Df K mg "may_leave" BU Dr C6 ["repeats","bar"]
 kI:Df K mg "may_enter" BV Ds C7 ["repeats","bar"]
 fJ:Df K mg "in_last_pass" qz si rK ["repeats","bar"]
 om:Df K mg "coda_fits" BX Dv C9 ["repeats","at","coda"]
 og:Df K mg "jump_fits" BW Du C8 ["repeats","jump"]
 fH:Df K mg "metre_length" qx sd rH ["score","bar"]
 jG:Df K mg "told_length" sM ua tK ["score","bar"]
 i5:Df K mg "items_length" qy se rJ ["items"]
 iD:Df K mg "has_bars" D0 E5 EH ["score","bars"]
 fG:Df K mg "player_fault" qw eD rG ["score","player"]
 c8:Df K mg "instrument_fault" lO cE l6 ["score","told"]
 fb:Df K mg "staff_fault" sN eW tL ["score","told"]
 kP:Df K mg "bar_fault" BY gR Dc ["score","told"]
 dW:Df K mg "upbeat_fault" qt eB rD ["score","length"]
 i7:Df K mg "hold_fault" v8 fP AW ["score","told"]
 gI:Df K mg "notes_fault" sV e9 tT ["score","told"]
 fF:Df K mg "repeat_fault" qv eC rF ["score","repeat"]
 i4:Df K mg "jump_fault" v7 fO AV ["score","jump"]
 rm:Df K mg "fault_of" lP sj EI ["score","sort","told"]
 rZ:Df K mg "add_hold" D4 E8 EL ["score","told"]
 Bf:Df K mg "add_row" Gv Hi G6 ["score","sort","told"]
 bA:Df K mg "read_score" mx m9 mZ ["text"]
 fR:Df K mg "_law_cell_at" qA sk rL ["_law_script","_law_k"]
 dJ:Df K mg "_law_mixed" wX Bl AY ["_law_cell","_law_k"]
 cA:Df K mg "_law_lowest" sY ui tW ["_law_top","_law_bottom"]
 iL:Df K mg "_law_sum" D6 E9 EM ["_law_lengths"]
 bX:Df K mg "_law_length_text" lQ mj l7 ["_law_length"]
 eP:Df K mg "_law_alike" wZ fQ fK ["_law_found","_law_due"]
 dM:Df K mg "_law_fault" wY Bo A0 ["_law_text","_law_place","_law_word"]
 mn:Df K mg "_law_metre" mz Bm AZ ["_law_m"]
 mm:Df K mg "_law_parts" v9 Bj AX ["_law_length","_law_m"]
 ku:Df K mg "_law_spoilt" sX uh tV ["_law_parts_here","_law_m"]
 so:Df K mg "_law_row" D7 Fb EN ["_law_bar","_law_player","_law_parts_here","_law_m"]
 eE:Df K mg "_law_upbeat_right" kU lh kZ ["_law_rows","_law_metre_here","_law_m"]
 Qb:Df K mg "law" Od OZ JH ["_law_script"]
 Kb:mg "Score"= some (.ref de)
 Lk:Mk K de jc
 sr:Pj K "__init__" "Score.__init__" mC jc m4 ["self"]
 Hc:mg "FIGURES"= some (.str "0123456789" Gk)
 iK:mg "LENGTH_FIGURES"= some (.int (4) nj)
 tY:mg "HIGHEST_KEY"= some (.int (7) su)
 rS:mg "OCTAVE_STEPS"= some (.int (12) qd)
 tZ:mg "FIFTH_STEPS"= some (.int (7) sv)
 jy:mg "PITCH_FIGURES"= some (.int (2) oW)
 A4:mg "NAME_SIGNS"= some (.str "abcdefghijklmnopqrstuvwxyz0123456789" vD)
 rW:mg "LONGEST_NAME"= some (.int (12) qg)
 iI:mg "NUMBER_FIGURES"= some (.int (3) ni)
 rX:mg "HIGHEST_TURN"= some (.int (12) qh)
 pF:mg "HIGHEST_METRE"= some (.int (32) oX)
 pE:mg "METRE_BOTTOMS"= some (.ref cH)
 jv:∀H,cx K H cH [.int 1,.int 2,.int 4,.int 8,.int 16,.int 32]
 rY:mg "FEWEST_TIMES"= some (.int (2) qi)
 A5:mg "MOST_TIMES"= some (.int (9) vE)
 vk:mg "READERS"= some (.ref fT)
 rV:mg "MOST_PLAYERS"= some (.int (12) qf)
 mh:mg "MOST_INSTRUMENTS"= some (.int (12) lK)
 Dg:mg "MOST_BARS"= some (.int (200) BB)
 A7:mg "MOST_HOLDS"= some (.int (20) vG)
 A6:mg "MOST_ITEMS"= some (.int (40) vF)
 rT:mg "MOST_REPEATS"= some (.int (20) qe)
 JJ:mg "FAULTS"= some (.ref mG)
 Ax:mg "ValueError"= none
 LN:mg "abs"= none
 Cy:mg "all"= none
 Cw:mg "any"= none
 Aw:mg "bool"= none
 j0:mg "enumerate"= none
 FJ:mg "int"= none
 aO:mg "isinstance"= none
 aP:mg "len"= none
 Av:mg "list"= none
 OA:mg "min"= none
 pN:mg "range"= none
 Oz:mg "set"= none
 Cv:mg "sorted"= none
 oK:mg "str"= none
 kF:mg "tuple"= none
 LM:mg "zip"= none
 i9:PySem.W.nsIn K mainGlobals "NoLength"= some (some (.ref cY))
 iW:PySem.W.excIn K cY [.type "ValueError",.type "Exception",.type "BaseException",.type "object"] "ValueError.__new__"= true
 DK:mg "NoLength"= some (.ref cY)
 cf:Cf K de
 pY:mg "BadScore"= some (.ref aS)
 cb:Br K aS fL fu
 lJ:Pj K "__init__" "BadScore.__init__" ji fu jx ["self","place","word"]
 AK:PySem.W.nsIn K mainGlobals "ScoreError"= some (some (.ref fL))
 tI:PySem.W.mroIn K fL (.type "BaseException")=some true
 Bx:PySem.W.mroIn K aS (.ref fL)=some true
 Ge:mg "BadDeed"= some (.ref kO)
 Kc:mg "NoBar"= some (.ref pS)
 DJ:mg "NoPlayer"= some (.ref ja)
 Gd:mg "NoStaff"= some (.ref kM)
 F9:jz K aS kO
 J7:jz K aS pS
 DG:jz K aS cY
 DF:jz K aS ja
 F8:jz K aS kM
 xf:LY K aS
def bx {X:Cx} {x:Str} {st:Stmt} {k n:Nat} {f:wV} {fd:wU} {ps:List Str} {sp:Sp} {e:Expr} {es:List Expr} {t:TA} {p pos:Pos} (F:bL X.prog X.w X.K X.mg X.base uq k f fd ps sp) (hr:df n X.A) (D:Df X.K X.mg x st f fd ps)
  (ha:PA X (e::es) t) (hk:k<=n<|>qb_) (hg:Gl X x<|>qe_) (hdb:(x == ("__debug__": Str))=false<|>qb_) (he:starEach (e::es) X.env=(false,eval e X.env)::starEach es X.env<|>qe_) (hpl:(backTo pos (starEach es X.env)).any (·.1)=false<|>qe_) :
  PE X (.Call (.Name x p) (e::es) [] pos) (cy sp [] E0 t):=mK F (hr.mono hk) hg D.g D.F.kp D.b .nil uK ha hdb he hpl
def eF {X:Cx} {a b:Expr} {ta tb:TE} {pos:Pos} (ha:PE X a ta) (hb:PE X b tb) (hs:Bq b<|>qg_):PE X (.Subscript a b pos) (eG (Iq X.K) ta tb):=IG KY ha hb hs
def b4 {X:Cx} {a b:Expr} {ta tb:TE} {pos:Pos} (ha:PE X a ta) (hb:PE X b tb) (hs:Bq b<|>qg_):PE X (.Subscript a b pos) (eG (nO X.K) ta tb):=IG M4 ha hb hs
def ptr {X:Cx} {a b:Expr} {ta tb:TE} {pos:Pos} {op:CmpOp} {r:R2} (ho:ng X (compareOp op) r) (ha:PE X a ta) (hb:PE X b tb) (h:op≠.In<|>qb_) (h2:op≠.NotIn<|>qb_):PT X (.Compare a [op] [b] pos) (oz (eG r ta tb)):=kD ho ha hb (dj b h h2)
def Lo (p:St) (n:Nat) (U:St):Prop:=∃e:Nat->Option V,U=p++(List.range n).map e
def Lo.of {p:St} {n:Nat} {U:St} (h:U.take ⇑p=p) (l:U.length=⇑p+n):Lo p n U:=by
 refine{λi=>U[⇑p+i]?.join,List.ext_getElem? λi=>?_}
 by_cases c:i<⇑p
 ·rw[xQ c]
  conv=>rhs;rw[<-h]
  rw[List.getElem?_take_of_lt c]
 ·rw[zT (),zH]
  by_cases d:i-⇑p<n
  ·rw[List.getElem?_range d]
   have:⇑p+(i-⇑p)=i:=()
   simp only[y6,this];rw[zb ()];rfl
  ·rw[wj (),wj (by simp;ext)]
   rfl
abbrev At (b:yr->TS) (K:yr):TS:=b K
abbrev Sq (b:yr->TS) (K:yr) (D:Ends):Ends:={D with nx:=b K D}
abbrev Dz (Q:VK):Ends:={nx:=λ_ H'=>Q .aU H',rt:=Q}
def Ev (t:TE) (U:St) (H:Hp) (v:V):Prop:=∀Q:VK,Q v H->t U H Q
def J1 (t:TA) (U:St) (H:Hp) (vs:List V):Prop:=∀R:List V->Hp->Prop,R vs H->t U H R
def LZ (t:TT) (U:St) (H:Hp) (b:Bool):Prop:=∀R:Bool->Hp->Prop,R b H->t U H R
inductive Qh (K:yr) (f:Str) (x:V) (H:Hp) (Q:VK):Prop
 | mk (a C dx:wV) (fs:List (Str×V)) (v:V) (_:x=.ref a) (_:H a=some (.ins C dx fs)) (_:Lq K C) (_:b5 K C f) (_:fs.lookup f=some v) (_:Q v H)
section
variable {t u:TE} {ta:TA} {c:TT} {wi:TI} {a b:TS} {gt:TG} {D:Ends} {U:St} {H:Hp} {v x y:V} {vs:List V} {g:Int->Int->V} {i j:Int} {r:R2} {Q:VK} {R:List V->Hp->Prop} {S:Bool->Hp->Prop} {k:Bool} {K:yr} {p:wV} {xs:List V}
def Ni {n:Nat} (e:U[n]?=some (some v)):Ev (aK n) U H v:=λ_ q=>{(v),e,q}
def Qk:Ev (tC v) U H v:=λ_ q=>q
def OT (a:Ev t U H (.int i)) (b:Ev u U H (.int j)):Ev (eG (Bs g) t u) U H (g i j):=λ_ q=>a _ (b _ {_,_,rfl,rfl,q})
def OS {C:Int->Int->Prop} (a:Ev t U H (.int i)) (b:Ev u U H (.int j)) (c:C i j):Ev (eG (rI C g) t u) U H (g i j):=λ_ q=>a _ (b _ {_,_,rfl,rfl,c,q})
def OR (a:Ev t U H (.ref p)) (b:Ev u U H (.int j)) (h:H p=some (.tup xs)) (e:Bu xs j=some v):Ev (eG (nO K) t u) U H v:=λ_ q=>a _ (b _ {_,_,_,_,rfl,rfl,cx.of h,e,q})
def Nk:J1 bK U H []:=λ_ q=>q
def K7 (a:Ev t U H v) (b:J1 ta U H vs):J1 (aF t ta) U H (v::vs):=λ_ q=>a _ (b _ q)
def Nl (a:Ev t U H v):Ev (HQ t) U H (.bl (decide (v=.aU))):=λ_ q=>a _ q
def K6 (a:Ev t U H v):Ev (HN t) U H (.bl (!decide (v=.aU))):=λ_ q=>a _ q
def Nj (a:Ev t U H (.bl k)):Ev (N6 t) U H (.bl (!k)):=λ_ q=>a _ {_,rfl,q}
def OU (a:Ev t U H x) (b:Ev u U H y) (s:Kn x y=true):Ev (eG Pd t u) U H (.bl (decide (x=y))):=λ_ q=>a _ (b _ {(s),q})
def OQ (a:Ev t U H x) (b:Ev u U H y) (s:Kn x y=true):Ev (eG P5 t u) U H (.bl (!decide (x=y))):=λ_ q=>a _ (b _ {(s),q})
def Qi (a:Ev t U H (.bl k)):LZ (oz t) U H k:=λ_ q=>a _ {_,rfl,q}
def Ql (a:Ev t U H (.bl k)):LZ (tB t) U H k:=λ_ q=>a _ {_,rfl,q}
def Qj (a:LZ c U H k):LZ (HP c) U H (!k):=λ_ q=>a _ q
def Oe (e:Ev t U H v) (q:gt v U H D.nx):jK t gt D U H:=e _ q
def Oc (e:Ev t U H v) (q:D.rt v H):DO t D U H:=e _ q
def P1 {a b:yr->TS} (e:LZ c U H k) (q:if k=true then At a K D U H else At b K D U H):sD c (a K) (b K) D U H:=e _ q
def Pk {b:yr->TS} (q:a (Sq b K D) U H):nu a (b K) D U H:=q
def Pr {n:Nat} {S:St->Hp->Prop} (q:S (U.set n (some v)) H):bH n v U H S:=q
def Po {b:yr->TS} (q:b K D U H):(Sq b K D).nx U H:=q
def Pn (q:D.nx U H):uA D U H:=q
def NT (q:t U H λx H1=>gt x U H1 D.nx):jK t gt D U H:=q
def NQ (q:t U H D.rt):DO t D U H:=q
def L7 (q:t U H λ_ H1=>D.nx U H1):HR t D U H:=q
def Pq (q:c U H λz H1=>if z=true then a D U H1 else b D U H1):sD c a b D U H:=q
def Pu {a b:yr->TS} (q:c U H λz H1=>if z=true then At a K D U H1 else At b K D U H1):sD c (a K) (b K) D U H:=q
def Ob (e:LZ c U H k) (q:S k H):c U H S:=e S q
def QJ (q:t U H λx H'=>∃k,x=.bl k/\S k H'):oz t U H S:=q
def QK (q:t U H λx H'=>∃k,x=.bl k/\S k H'):tB t U H S:=q
def Pz (e:Ev t U H v) (q:Q v H):t U H Q:=e Q q
def w_arg (e:J1 ta U H vs) (q:R vs H):ta U H R:=e R q
def x_call {sp:Sp} {dv:List V} {E:XK} (q:ta U H λvs H1=>sp (vs++dv) H1 Q E):cy sp dv E ta U H Q:=q
def Pw {q':List V->Hp->VK->Prop} (q:ta U H λvs H1=>q' vs H1 Q):uB q' ta U H Q:=q
def NP (q:ta U H λxs H1=>⇑xs<=sizeLine/\∀p,H1 p=none->Q (.ref p) (upd H1 p (.tup xs))):Gm ta U H Q:=q
def NR (q:ta U H λxs H1=>⇑xs<=sizeLine/\∀p,H1 p=none->Q (.ref p) (upd H1 p (.lst xs))):BD ta U H Q:=q
def L8 {fr:List (Option Nat)} (q:wi U H λJ H1=>dE (fr.map λo=>o.bind λj=>(U[j]?).join) gt c t Q J H1):jJ fr wi gt c t U H Q:=q
def P0 {R:It->Hp->Prop} (e:Ev t U H (.ref p)) (q:(∃xs,aD K H p xs)/\R (J0 K p) H):FO K t U H R:=e _ {_,rfl,q}
def Pl {R:It->Hp->Prop} (q:ta U H λvs H1=>∃j:Int,vs=[.int j]/\-(2^62)<=j/\j<2^62/\R (NM 0 j.toNat) H1):Jk ta U H R:=q
abbrev iJ (J:It):TI:=λ_ H R=>R J H
def Fr (g:TG) (b:TS) (D:Ends) (U:St) (J:It) (H:Hp):Prop:=Ki (iJ J) g b D U H
def NS {b:yr->TS} (q:wi U H (Fr gt (At b K) D U)):Ki wi gt (b K) D U H:=q
def x_at {b:yr->TS} (q:b K D U H):At b K D U H:=q
def Pp {R:It->Hp->Prop} (q:t U H λx H1=>∃a,x=.ref a/\(∃xs,aD K H1 a xs)/\R (J0 K a) H1):FO K t U H R:=q
def PQ {R:It->Hp->Prop} (e:J1 ta U H vs) (q:∃a xs,vs=[.ref a]/\aD K H a xs/\R (ND K a) H):Jl K ta U H R:=e _ q
def PK {R:It->Hp->Prop} (e:J1 ta U H vs) (q:∃j:Int,vs=[.int j]/\-(2^62)<=j/\j<2^62/\R (NM 0 j.toNat) H):Jk ta U H R:=e _ q
def Mc {sp:Sp} {dv:List V} {E:XK} (e:J1 ta U H vs) (q:sp (vs++dv) H Q E):cy sp dv E ta U H Q:=e _ q
def PR {q':List V->Hp->VK->Prop} (e:J1 ta U H vs) (q:q' vs H Q):uB q' ta U H Q:=e _ q
def PJ (e:J1 ta U H vs) (q:⇑vs<=sizeLine/\∀p,H p=none->Q (.ref p) (upd H p (.tup vs))):Gm ta U H Q:=e _ q
def PN (e:J1 ta U H vs) (q:⇑vs<=sizeLine/\∀p,H p=none->Q (.ref p) (upd H p (.lst vs))):BD ta U H Q:=e _ q
def Of {d:TT} (e:LZ c U H k) (q:if k=true then d U H S else S false H):Oa c d U H S:=e _ q
def PZ {d:TT} (e:LZ c U H k) (q:if k=true then S true H else d U H S):Qw c d U H S:=e _ q
def NX {f:Str} (e:Ev t U H x) (q:Qh K f x H Q):Gn K t f U H Q:=e _ (by let⟨a,C,dx,fs,v,h1,h2,h3,h4,h5,h6⟩:=q;exact{(a),C,dx,fs,v,h1,h2,h3,h4,h5,h6})
def PU {T:String} {q':V->List V->Hp->VK->Prop} (e:Ev t U H x) (q:PV K T x H/\ta U H λxs H2=>q' x xs H2 Q):N9 K T q' t ta U H Q:=e _ q
def NY (e:Ev t U H (.bl k)) (q:if k=true then u U H Q else Q (.bl false) H):Ly t u U H Q:=e _ {_,rfl,q}
def PL (e:Ev t U H (.bl k)) (q:if k=true then Q (.bl true) H else u U H Q):N5 t u U H Q:=e _ {_,rfl,q}
def PM (q:t U H λx H1=>u U H1 λy H2=>r x y H2 Q):eG r t u U H Q:=q
def Mb (q:t U H λx H1=>ta U H1 λxs H2=>R (x::xs) H2):aF t ta U H R:=q
def Px (e:Ev t U H x) (q:u U H λy H2=>r x y H2 Q):eG r t u U H Q:=e _ q
def L9 (e:Ev t U H v) (q:ta U H λxs H2=>R (v::xs) H2):aF t ta U H R:=e _ q
def Py (q:Q (g i j) H):Bs g (.int i) (.int j) H Q:={(i),j,rfl,rfl,q}
def NU (h:H p=some (.tup xs)) (e:Bu xs j=some v) (q:Q v H):nO K (.ref p) (.int j) H Q:={_,_,_,_,rfl,rfl,cx.of h,e,q}
end
def iM {g:TG} {tb:TS} {x:V} {U:St} {H:Hp} {A C:St->Hp->Prop} {B:VK} (h:∀N:Ends,(∀U H,A U H->N.nx U H)->(∀v H,B v H->N.rt v H)->(∀U H,A U H->N.ct U H)->(∀U H,C U H->N.bk U H)->g x U H λU2 H2=>tb N U2 H2):g x U H λU2 H2=>tb {nx:=A,rt:=B,bk:=C,ct:=A} U2 H2:=h _ (λ_ _ z=>z) (λ_ _ z=>z) (λ_ _ z=>z) λ_ _ z=>z
def PD {r:Sp} {vs:List V} {H:Hp} {Q:VK} {E:XK} (h:∀Q':VK,(∀v H',Q v H'->Q' v H')->r vs H Q' E):r vs H Q E:=h Q λ_ _ z=>z
def PF {r:R2} {x y:V} {H:Hp} {Q:VK} (h:∀Q':VK,(∀v H',Q v H'->Q' v H')->r x y H Q'):r x y H Q:=h Q λ_ _ z=>z
def PB {r:V->Hp->VK->Prop} {x:V} {H:Hp} {Q:VK} (h:∀Q':VK,(∀v H',Q v H'->Q' v H')->r x H Q'):r x H Q:=h Q λ_ _ z=>z
abbrev cG (P:wO) (w:wQ) (base:wW) (n:Nat) {K:yr} {mg:Str->Option wM} {x:Str} {st:Stmt} {a:wV} {d:wU} {ps:List Str} (_:Df K mg x st a d ps) (sp:Sp):Prop:=bL P w K mg base uq n a d ps sp
theorem _root_.L2.Hm.JY {P:wO} {w:wQ} {K:yr} {mg:Str->Option wM} {base:wW} {x qual:Str} {st:Stmt} {f:wV} {fd:wU} {N ps:List Str} {k:Nat} {sp:Sp} (F:Hm K x qual st f fd) (S:cQ N ps (aC st))
  (hbody:∀(cdv:wM) (A:wR) (outer:List Env) (s:wN) (H:Hp) (vs:List V) (Q:VK) (E:XK),df k (A.deeper (PyProof.Rows.envOfC qual (aC st) ↑s f cdv))->sp vs H Q E->
   ∃t,uk (fq uq P w K mg base N qual (aC st) f cdv A outer s H E).Bt (aV st) t/\t (Dz Q) (start N vs) H)
  (len:(∀vs H Q E,sp vs H Q E->⇑vs=⇑ps)<|>qh_):bL P w K mg base uq (k+1) f fd ps sp:=F.ok S len hbody
def P9 {P:wO} {w:wQ} {K:yr} {mg:Str->Option wM} {base:wW} {x:Str} {st:Stmt} {f:wV} {fd:wU} {N ps:List Str} {k:Nat} {sp:Sp} (D:Df K mg x st f fd ps) (S:cQ N ps (aC st))
  (hbody:N.Nodup->∀(cdv:wM) (A:wR) (outer:List Env) (s:wN) (H:Hp) (vs:List V) (Q:VK) (E:XK),df k (A.deeper (PyProof.Rows.envOfC x (aC st) ↑s f cdv))->sp vs H Q E->
   ∃t,uk (fq uq P w K mg base N x (aC st) f cdv A outer s H E).Bt (aV st) t/\t (Dz Q) (start N vs) H)
  (len:(∀vs H Q E,sp vs H Q E->⇑vs=⇑ps)<|>qh_):bL P w K mg base uq (k+1) f fd ps sp:=D.F.ok S len (hbody S.nd)
def Nb {N P:List Str} {sc:Scope} (h1:sc.kind=.function<|>qe_) (h2:sc.isCoroutine=false<|>qe_) (h3:sc.isGenerator=false<|>qe_) (h4:N.Nodup<|>qi_) (h5:N.take P.length=P<|>qe_) (h6:(∀x∈P,sc.names.lookup x=some .local\/sc.names.lookup x=some .cell)<|>qi_) (h7:(∀y∈sc.names,y.2≠.free)<|>qi_):cQ N P sc:={(h1),h2,h3,h4,h5,h6,h7}
def c5 {X:Cx} {x:Str} {id:String} {r:List V->Hp->VK->Prop} {e:Expr} {es:List Expr} {t:TA} {p pos:Pos} (hc:cZ X (.builtin id) r) (hm:X.mg x=none) (ha:PA X (e::es) t) (hg:Gl X x<|>qe_) (hv:bootBuiltins x=some (.builtin id)<|>qi_) (hn:x≠ "__name__"<|>qb_) (hdb:(x == ("__debug__": Str))=false<|>qb_)
  (he:starEach (e::es) X.env=(false,eval e X.env)::starEach es X.env<|>qe_) (hpl:(backTo pos (starEach es X.env)).any (·.1)=false<|>qe_):PE X (.Call (.Name x p) (e::es) [] pos) (uB r t):=Cb hc hg hm hv ha hn hdb he hpl
def FG {X:Cx} {x:Str} {id:String} {r:List V->Hp->VK->Prop} {e:Expr} {es:List Expr} {t:TA} {p pos:Pos} (hc:cZ X (.type id) r) (hm:X.mg x=none) (ha:PA X (e::es) t) (hg:Gl X x<|>qe_) (hv:bootBuiltins x=some (.type id)<|>qi_) (hn:x≠ "__name__"<|>qb_) (hdb:(x == ("__debug__": Str))=false<|>qb_)
  (he:starEach (e::es) X.env=(false,eval e X.env)::starEach es X.env<|>qe_) (hpl:(backTo pos (starEach es X.env)).any (·.1)=false<|>qe_):PE X (.Call (.Name x p) (e::es) [] pos) (uB r t):=GG hc hg hm hv ha hn hdb he hpl
def ck {X:Cx} {x:Str} {e:Expr} {te:TE} {pos pos':Pos} (i:Nat) (hN:X.N.Nodup) (he:PE X e te) (hi:X.N[i]?=some x<|>qe_) (hx:Loc X.env.scope x<|>qj_) (hs:swapsWith e (some (.Name x pos')) pos.line X.env=pure false<|>qe_) (hf:X.fn x=true\/X.env.scope.names.lookup x=some .local<|>qa_) :
  PS X (.Assign [.Name x pos'] e pos) (jK te (bH i)):=MD hN hi hx he hs hf
def FA {X:Cx} {x:Str} {pos:Pos} (i:Nat) (hN:X.N.Nodup) (hi:X.N[i]?=some x<|>qe_) (hx:Loc X.env.scope x<|>qj_) (hf:X.fn x=true\/X.env.scope.names.lookup x=some .local<|>qa_):PG X (.Name x pos) (bH i):=FC hN hi hx hf
def lE {X:Cx} {ts ys:List Str} {scope:Scope} {cl:List (Str×wV)} {C:wV} {s₀:wN} {H₀:Hp} {ex:List wV} {x:Str} {pos:Pos} (i:Nat) (hN:(ts++ys).Nodup<|>qi_) (hi:(ts++ys)[i]?=some x<|>qe_) (hx:Loc (bI X (ts++ys) scope cl C s₀ H₀ ex).env.scope x<|>qj_) (hf:(bI X (ts++ys) scope cl C s₀ H₀ ex).fn x=true\/(bI X (ts++ys) scope cl C s₀ H₀ ex).env.scope.names.lookup x=some .local<|>qa_):PG (bI X (ts++ys) scope cl C s₀ H₀ ex) (.Name x pos) (bH i):=FC hN hi hx hf
section
variable {X:Cx} {pos:Pos} {elt target iter:Expr} {ifs:List Expr} {scope:Scope} {ts ys:List Str} {js:List Nat} {cl:List (Str×wV)} {wi:TI} {g:TG} {tc:TT} {te:TE}
def qL (hi:PI X target iter wi) (hg:∀{C s₀ H₀ ex},PG (bI X (ts++ys) scope cl C s₀ H₀ ex) target g) (hif:∀{C s₀ H₀ ex},Lj (bI X (ts++ys) scope cl C s₀ H₀ ex) ifs tc) (he:∀{C s₀ H₀ ex},PE (bI X (ts++ys) scope cl C s₀ H₀ ex) elt te)
  (hclos:closureFor scope X.env=pure cl<|>qe_) (hc:X.calm=true<|>qe_) (hcl:Bp X.env.cells cl<|>qk_)
  (hLo:((relabel scope X.env).names.all λp=>(p.2 != .cell&&p.2 != .free)||ys.contains p.1||scope.names.contains (p.1,.cell))=true<|>qe_) (hno:(∀p∈scope.names,p.2=.cell->p.1∉ys)<|>qi_)
  (hfr:Hn X scope cl ys js<|>qk_)
  (hkind:scope.kind=.function<|>qe_) (hnames:(∀y∈scope.names,y.2=.local->scope.names.lookup y.1=some .local)<|>qi_) (hs:(∀x,foldedSetIterable iter X.env x=pure x)<|>qd_) :
  PE X (.ListComp elt [{target,iter,ifs,0}] scope pos) (jJ (ts.map (λ_=>none)++js.map some) wi g tc te):=IJ hc hclos hcl hLo hno hfr hkind hnames hi (λ_ _ _ _=>hg) (λ_ _ _ _=>hif) (λ_ _ _ _=>he) hs
def Ou {i:Nat} {x:Str} {ps pa:Pos} (hi:PI X target iter wi) (hg:∀{C s₀ H₀ ex},PG (bI X (ts++ys) scope cl C s₀ H₀ ex) target g) (hif:∀{C s₀ H₀ ex},Lj (bI X (ts++ys) scope cl C s₀ H₀ ex) ifs tc) (he:∀{C s₀ H₀ ex},PE (bI X (ts++ys) scope cl C s₀ H₀ ex) elt te) (hN:X.N.Nodup)
  (hclos:closureFor scope X.env=pure cl<|>qe_) (hc:X.calm=true<|>qe_) (hcl:Bp X.env.cells cl<|>qk_)
  (hLo:((relabel scope X.env).names.all λp=>(p.2 != .cell&&p.2 != .free)||ys.contains p.1||scope.names.contains (p.1,.cell))=true<|>qe_) (hno:(∀p∈scope.names,p.2=.cell->p.1∉ys)<|>qi_)
  (hfr:Hn X scope cl ys js<|>qk_)
  (hkind:scope.kind=.function<|>qe_) (hnames:(∀y∈scope.names,y.2=.local->scope.names.lookup y.1=some .local)<|>qi_) (hx1:X.N[i]?=some x<|>qe_) (hx2:Loc X.env.scope x<|>qj_) (hs:(∀x,foldedSetIterable iter X.env x=pure x)<|>qd_) (hsw:swapsWith (.ListComp elt [{target,iter,ifs,0}] scope pos) (some (.Name x ps)) pa.line X.env=pure true<|>qe_)
  (hf:X.fn x=true\/X.env.scope.names.lookup x=some .local<|>qa_) :
  PS X (.Assign [.Name x ps] (.ListComp elt [{target,iter,ifs,0}] scope pos) pa) (jK (jJ (ts.map (λ_=>none)++js.map some) wi g tc te) (bH i)):=Iy hc hclos hcl hLo hno hfr hkind hnames hi (λ_ _ _ _=>hg) (λ_ _ _ _=>hif) (λ_ _ _ _=>he) hN hx1 hx2 hs hsw hf
end
section
variable {P:wO} {w:wQ} {K:yr} {mg:Str->Option wM} {base:wW} (T:Txt K mg)
local macro_rules | `(tactic|right) => `(tactic| (intro pp hn; generalize hG : upd _ pp _ = HH; have sm := au.Aq hG hn; have hh := Bb hG; clear hG hn))
local macro_rules | `(tactic| intros $D:ident $n:ident $s:ident $h:ident $H:ident) => `(tactic| ((try refine ⟨zZ _, ?_⟩); intro $D $n; generalize hG : upd _ $D _ = $H; have $s:ident := au.Aq hG $n; have $h:ident := Bb hG; clear hG))
local macro_rules|`(tactic|ac_rfl)=>`(tactic|try dsimp only[fq,Cx.Bt])
local macro_rules|`(tactic|intros $p:ident $H:ident $s:ident $h:ident)=>`(tactic|(intro $p hn;generalize hG:upd _ $p _=$H;have $s:ident:=au.Aq hG hn;have $h:ident:=Bb hG;clear hG hn))
local macro_rules|`(tactic|change $e:term)=>`(tactic|(left ;exact $e))
set_option hygiene false
local macro_rules|`(tactic|fail "h")=>`(tactic|(refine au.on (by assumption) ?_; fail "h"))
local macro_rules|`(tactic|fail "h")=>`(tactic|assumption)
local macro_rules|`(tactic|fail "e")=>`(tactic|((with_reducible apply OS); fail "e"; fail "e"; (first | (show (0 : Int) < _; decide) | exact And.intro ∅ ∅ | exact Or.inl ⟨∅, by decide⟩ | exact Or.inr ⟨∅, by decide⟩)))
local macro_rules|`(tactic|fail "e")=>`(tactic|((with_reducible (first | apply OU | apply OQ)); fail "e"; fail "e"; exact rfl))
local macro_rules|`(tactic|fail "e")=>`(tactic|((with_reducible (first | apply Qi | apply Ql | apply Qj | apply Nl | apply K6 | apply Nj)); fail "e"))
local macro_rules|`(tactic|fail "e")=>`(tactic|((with_reducible apply OR); fail "e"; fail "e"; fail "h"; exact rfl))
local macro_rules|`(tactic|fail "e")=>`(tactic|((with_reducible (first | apply OT | apply K7)); fail "e"; fail "e"))
local macro_rules|`(tactic|fail "e")=>`(tactic|with_reducible (first | exact Qk | exact Nk))
local macro_rules|`(tactic|fail "e")=>`(tactic|((with_reducible apply Ni); exact rfl))
local macro_rules | `(tactic| exists $es,*) => `(tactic| (left; first | ((with_reducible (first | refine PD fun _ kq => ?_ | refine PF fun _ kq => ?_ | refine PB fun _ kq => ?_)); refine ⟨$es,*⟩; refine kq _ _ ?_) | refine ⟨$es,*⟩))
local macro_rules|`(tactic|fail "s")=>`(tactic|refine Or.inr ⟨_, rfl, ?_⟩)
local macro_rules|`(tactic|fail "s")=>`(tactic|refine ⟨Or.inr ⟨∅, by decide⟩, ?_⟩)
local macro_rules|`(tactic|fail "s")=>`(tactic|refine ⟨Or.inl ⟨∅, by decide⟩, ?_⟩)
local macro_rules|`(tactic|fail "s")=>`(tactic|refine ⟨(And.intro ∅ ∅), ?_⟩)
local macro_rules|`(tactic|fail "s")=>`(tactic|refine ⟨(by show (0 : Int) < _; decide), ?_⟩)
local macro_rules|`(tactic|fail "s")=>`(tactic|refine ⟨_, Fj (by fail "h"), ?_⟩)
local macro_rules|`(tactic|fail "s")=>`(tactic|refine ⟨_, _, _, _, rfl, rfl, cx.of (by fail "h"), rfl, ?_⟩)
local macro_rules|`(tactic|fail "s")=>`(tactic|refine Qd ?_)
local macro_rules|`(tactic|fail "s")=>`(tactic|refine OI ?_)
local macro_rules|`(tactic|fail "s")=>`(tactic|refine ⟨rfl, ?_⟩)
local macro_rules|`(tactic|fail "s")=>`(tactic|refine ⟨_, _, rfl, rfl, ?_⟩)
local macro_rules|`(tactic|fail "s")=>`(tactic|refine ⟨_, rfl, ?_⟩)
local macro_rules|`(tactic|fail "s")=>`(tactic|with_reducible (first | apply Py | apply QJ | apply QK | apply x_call | apply Pw | apply NP | apply NR | apply L8 | apply Pl | apply Pp | apply PM | apply Mb))
local macro_rules|`(tactic|fail "s")=>`(tactic|((with_reducible apply NU); fail "h"; exact rfl))
local macro_rules|`(tactic|fail "s")=>`(tactic|((with_reducible (first | apply Mc | apply PR | apply P0 | apply NX | apply PU | apply NY | apply PL | apply Px | apply L9 | apply PJ | apply PN | apply PQ | apply PK | apply Of | apply PZ | apply s_ie)); fail "e"))
local macro_rules|`(tactic|fail "s")=>`(tactic|((with_reducible apply Ob); fail "e"))
local macro_rules|`(tactic|fail "s")=>`(tactic|((with_reducible apply w_arg); fail "e"))
local macro_rules|`(tactic|fail "s")=>`(tactic|((with_reducible apply Pz); fail "e"))
local macro_rules|`(tactic|fail "s")=>`(tactic|with_reducible (first | apply Pk (K := K) | apply Pr | apply Po | apply Pn | apply x_at | apply NT | apply NQ | apply L7 | apply Pu (K := K) | apply Pq | apply NS (K := K)))
local macro_rules|`(tactic|fail "s")=>`(tactic|((with_reducible (first | apply Oe | apply Oc | apply P1 (K := K))); fail "e"))
local macro_rules | `(tactic|left) => `(tactic| ((repeat fail "s"); (first | (first | apply kN4 | apply kN3 | apply kN2 | apply kN1 | apply kN0 | apply kR4 | apply kR3 | apply kR2 | apply kR1 | apply kR0); left | skip)))
local macro_rules | `(tactic| nomatch $a:term, $b:term) => `(tactic| refine P9 $a (N := $b) Nb fun qN _ _ _ _ H vs Q E hr h => ?_)
set_option hygiene true
def mR:cG P w base 1 T.d9 gx:=by
 nomatch T.d9,["one","other","rest"]
 let⟨a,b,rfl,h1,h2,kk⟩:=h;refine{_,(ae (B6 yG (ptr fB (pv 1) ah)
  (ae (ck 2 qN (az b8 (pv 0) (pv 1)))
   (ae (ck 0 qN (pv 1))
   (ai (ck 1 qN (pv 2))))))
  (ai (aj (pv 0)))),?_}
 refine{λm U H'=>H'=H/\∃(x y:Int) (r:Option V),U=[some (.int x),some (.int y),r]/\0<=x/\0<=y/\Int.gcd x y=Int.gcd a b/\m=y.toNat,{_,rfl,a,b,none,rfl,h1,h2,rfl,rfl},?_};rintro m U H' ⟨rfl,x,y,r,rfl,hx,hy,hg,rfl⟩;left
 by_cases e:y=0
 ·subst e
  refine LQ rfl ?_;refine{_,rfl,?_};let e2:Int.gcd a b=x.natAbs:=by rw[<-hg];simp
  let e3:((Int.gcd a b:Nat):Int)=x:=by rw[e2];ext
  rw[e3] at kk;exact kk
 ·refine bF (by simp[e]) ?_
  refine{λU' H''=>∃m',m'<y.toNat/\H''=H'/\∃(x y:Int) (r:Option V),U'=[some (.int x),some (.int y),r]/\0<=x/\0<=y/\Int.gcd x y=Int.gcd a b/\m'=y.toNat,λ_ _ h=>h,?_};exists(by show(0:Int)<y;ext),?_;left;let hp:(0:Int)<y:=()
  let l1:=zr x (by omega:y≠0);let l2:=zm x hp;exact{(x%y).toNat,(),rfl,y,x%y,_,rfl,hy,l1,(CJ hx hp).trans hg,rfl}
def gg:cG P w base 2 T.cW dZ:=by
 let G_common_divisor:cG P w base 1 T.d9 gx:=mR T
 nomatch T.cW,["top","bottom","divisor"]
 let⟨t,b,rfl,h1,h2,h3,kk⟩:=h;refine{_,(ae (ck 2 qN (bx G_common_divisor hr T.d9 (aa (pv 0) (aa (pv 1) af))))
  (ai (aj (bB (aa (az mP (pv 0) (pv 2)) (aa (az mP (pv 1) (pv 2)) af)))))),?_}
 exists t,b,rfl,h1,yS h2,?_;let g0:=pP (t:=t) h2;let g1:Sz 8999 ((Int.gcd t b:Nat):Int):=h3.le (yS g0) (Jq h2);exists{(g0),g1},?_;exists{(g0),g1},?_;refine{di,laid λp H' sm hp=>kk p H' sm ?_};exact hp
def IQ:cG P w base 3 T.added HW:=by
 let G_made_length:cG P w base 2 T.cW dZ:=gg T
 nomatch T.added,["one","other"]
 let⟨x,y,p,q,n,m,rfl,hp,hq,rx,ry,sx,sy,hnm,kk⟩:=h;let⟨x1,x2,_⟩:=rx.pos;let⟨y1,y2,_⟩:=ry.pos;let bx1:Sz 20000 x.1:=sx.1.mono ();let bx2:Sz 20000 x.2:=sx.2.mono ();let by1:Sz 20000 y.1:=sy.1.mono ();let by2:Sz 20000 y.2:=sy.2.mono ();refine{_,(ai (aj (bx G_made_length hr T.cW (aa (az cL (az mL (b4 (pv 0) ah) (b4 (pv 1) ah)) (az mL (b4 (pv 1) ah) (b4 (pv 0) ah))) (aa (az mL (b4 (pv 0) ah) (b4 (pv 1) ah)) af))))),?_};exists{(bx1),by2},?_;exists{(by1),bx2},?_;exists{(bx2),by2},?_;refine{_,_,rfl,Int.add_nonneg (xK x1 (yS y2)) (xK y1 (yS x2)),xh x2 y2,(sx.2.mul sy.2).mono hnm,λr H' sm hr'=>kk r H' sm hr'}
def Ei:cG P w base 1 T.vV DP:=by
 nomatch T.vV,["one","other"]
 let⟨x,y,p,q,rfl,hp,hq,sx,sy,kk⟩:=h;let bx1:Sz 20000 x.1:=sx.1.mono ();let bx2:Sz 20000 x.2:=sx.2.mono ();let by1:Sz 20000 y.1:=sy.1.mono ();let by2:Sz 20000 y.2:=sy.2.mono ();refine{_,(ai (aj (bT gF (az mL (b4 (pv 0) ah) (b4 (pv 1) ah)) (az mL (b4 (pv 1) ah) (b4 (pv 0) ah)) (dj _)))),?_};exists{(bx1),by2},?_;exists{(by1),bx2},?_;change kk
def dw:cG P w base 1 T.dJ eR:=by
 nomatch T.dJ,["_law_cell","_law_k"]
 let⟨c,k,rfl,h1,h2,kk⟩:=h;refine{_,(ai (aj (az b8 (az fk (az fk (az cL (az b8 (pv 0) ah) ah) (az cL (az fk (pv 1) (pv 1)) ah)) ah) ah))),?_};exists Or.inl {(()),()},?_;left;let e1:0<=c%2305843009213693951:=zr _ ∅;let e2:c%2305843009213693951<2305843009213693951:=zm _ ∅;refine{Or.inl {(()),()},?_};change kk
def cw:cG P w base 1 T.cA jR:=by
 nomatch T.cA,["_law_top","_law_bottom","_law_one","_law_other"]
 let⟨t,b,rfl,h1,h2,h3,kk⟩:=h;let g0:=pP (t:=t) h2;let g1:Sz 8999 ((Int.gcd t b:Nat):Int):=h3.le (yS g0) (Jq h2);refine{_,(ae (Ed (i:=2) (j:=3) rfl qN rfl rfl ∅ rfl rfl (aa (pv 0) (aa (pv 1) af)) rfl)
  (ae (B6 yG (ptr gf (pv 3) ah)
  (ai (Ed (i:=2) (j:=3) rfl qN rfl rfl ∅ rfl rfl (aa (pv 3) (aa (az b8 (pv 2) (pv 3)) af)) rfl)))
  (ai (aj (bB (aa (az mP (pv 0) (pv 2)) (aa (az mP (pv 1) (pv 2)) af))))))),?_}
 exists _,_,rfl,?_;refine{λm U H'=>H'=H/\∃(x y:Int),U=[some (.int t),some (.int b),some (.int x),some (.int y)]/\0<=x/\0<=y/\Int.gcd x y=Int.gcd t b/\m=y.toNat,{_,rfl,t,b,rfl,h1,yS h2,rfl,rfl},?_};rintro m U H' ⟨rfl,x,y,rfl,hx,hy,hg,rfl⟩;left
 by_cases e:y=0
 ·subst e
  refine bG (by simp) ?_;let e2:Int.gcd t b=x.natAbs:=by rw[<-hg];simp
  let e3:x=((Int.gcd t b:Nat):Int):=by rw[e2];ext
  subst e3;exists{(g0),g1},?_;exists{(g0),g1},?_;refine{di,laid λp H' sm hp=>kk p H' sm ?_};exact hp
 ·let hp:(0:Int)<y:=()
  refine bF (zd hp) ?_;refine{λU' H''=>∃m',m'<y.toNat/\H''=H'/\∃(x y:Int),U'=[some (.int t),some (.int b),some (.int x),some (.int y)]/\0<=x/\0<=y/\Int.gcd x y=Int.gcd t b/\m'=y.toNat,λ_ _ h=>h,?_};exists(by show(0:Int)<y;ext),?_;refine{_,_,rfl,?_};let l1:=zr x (by omega:y≠0);let l2:=zm x hp;exact{(x%y).toNat,(),rfl,y,x%y,rfl,hy,l1,(CJ hx hp).trans hg,rfl}
def cT:cQ ["text","parts","top","bottom"] ["text"] (aC lD):=Nb
def fm:cG P w base 1 T.b6 fi:=by
 nomatch T.b6,["text","most"]
 let⟨t,most,rfl,hl,kk⟩:=h;let sl:=yt;let hz:⇑t<=sizeLine:=()
 let el:⇑t.cps.toList=⇑t:=yH;unfold rn at kk;rw[el] at kk;refine{_,(ae (ax (PW.pt (dh (ptr gF (c5 eA T.aP (aa (pv 0) af)) ah) (cu (ptr gf (c5 eA T.aP (aa (pv 0) af)) (pv 1)))))
  (ai (aj aH))
  ak)
  (ae (ax (cv (bf (c5 (iH rfl) T.Cy (aa (qL (ts:=["sign"]) (ys:=[]) (js:=[]) (te:=(eG (λx y H Q=>∃i j,x=.str i/\y=.str j/\Q (.bl (!(Builtin.Str.occurrences j i 0 ⇑j 1).isEmpty)) H) (aK 0) (tC (.str "0123456789")))) (IC (pv 0)) (lE 0) aX (bT uM (pv 0) (aN (v:=.str "0123456789") (by rfl) T.Hc {_,rfl}) (by with_unfolding_all rfl))) af))))
  (ai (aj aH))
  ak)
  (ae (ax (PW.pt (d0 (ptr bE (IG M5 (pv 0) ah (λ_ _=>rfl)) ay) (c7 (ptr gf (c5 eA T.aP (aa (pv 0) af)) ah))))
  (ai (aj aH))
  ak)
  (ai (aj (FG A3 T.FJ (aa (pv 0) af))))))),?_}
 exists hz,?_;left;refine pz (λc1=>?_) (λc1=>?_)
 ·left
  let z:=kk H (au.refl H);rw[yF (zX c1)] at z;exact z
 let c1':¬(⇑t:Int)<1:=λz=>c1 (zd z);rw[yE c1'] at kk;exists hz,?_;left;refine pz (λc2=>?_) (λc2=>?_)
 ·left
  let z:=kk H (au.refl H);rw[yF (zX c2)] at z;exact z
 let c2':¬most<(⇑t:Int):=λz=>c2 (zd z);rw[yE c2'] at kk;left;refine m6 ⇑t (λi=>(t.cps.toList.take i).map λc=>V.bl (decide (c∈pB))) (λi U H'=>H'=H/\∃v,U=[v]) (λi hi=>by rw[za,zN];ext) () rfl {(rfl),none,rfl} (λi U H' hi _=>hi) (λU H' _=>zh _) ?_ ?_
 ·rintro i x U H1 H2 hi ⟨rfl,v,rfl⟩ ⟨rfl,c,hc,rfl⟩
  left;refine Ho.push hi ?_ {rfl,_,rfl};rw[PySem.StrLaws.found_one];rw[<-yY] at hc;show List.map _ (List.take (i+1) t.cps.toList)=_;rw[xb,hc,zg];rfl
 ·rintro U H1 ⟨rfl,_⟩
  rw[<-el,zK];intros D H2 sm h2;refine{D,t.cps.toList.map (λc=>decide (c∈pB)),rfl,aD.of (by rw[h2,zw];rfl),?_};let ea:(t.cps.toList.map (λc=>decide (c∈pB))).all id=t.cps.toList.all (λc=>decide (c∈pB)):=by rw[xN];rfl
  rw[ea]
  by_cases ha:t.cps.toList.all (λc=>decide (c∈pB))=true
  ·rw[ha]
   rw[yF ha] at kk;left;let h1:0<t.cps.size:=by show 0<⇑t;ext
   obtain⟨c,hc⟩:∃c,t.cps[0]?=some c:={t.cps[0]'h1,Array.getElem?_eq_getElem h1}
   let hc':t.cps.toList[0]?=some c:=by rw[yY];exact hc
   rw[hc'] at kk;refine{_,0,c,rfl,rfl,hz,aQ (j:=0) hc',?_};left;let rd:PySem.intText? t=some ((NumText.digitsVal t.cps.toList:Nat):Int):=PySem.intText_digits (EX ha) (λz=>by rw[z] at el;simp at el;ext) ()
   by_cases e0:c=48
   ·subst e0
    refine bF ∅ ?_;exists hz,?_;left;refine pz (λc3=>?_) (λc3=>?_)
    ·left
     let c3':1<⇑t:=by have:=zX c3;ext
     let z:=kk H2 sm;rw[yF {(rfl),c3'}] at z;exact z
    ·let c3':¬1<⇑t:=λz=>c3 (zd ())
     let z:=kk H2 sm;rw[yE (λq=>c3' q.2)] at z;change{_,_,rfl,rd,(),z}
   ·refine bG (zc λz=>e0 ?_) ?_
    ·let z':=V.str.inj z
     exact(List.cons.inj (show [c]=[48] from yQ (λy:Str=>y.cps.toList) z')).1
    let z:=kk H2 sm;rw[yE (λq=>e0 (yb q.1))] at z;change{_,_,rfl,rd,(),z}
  ·rw[yE ha] at kk
   rw[Bool.eq_false_iff.mpr ha];change kk H2 sm
def jo:cG P w base 2 T.dP je:=by
 let G_read_number:cG P w base 1 T.b6 fi:=fm T
 nomatch T.dP,["text","most","number"]
 let⟨t,most,rfl,hl,kk⟩:=h;let sl:=yt;unfold rs at kk;refine{_,(ae (ax (cv (bf (cV yx PySem.F.slot_str_startswith PySem.F.type_str_startswith tH (pv 0) (aa ay af))))
  (ai (aj (bx G_read_number hr T.b6 (aa (pv 0) (aa (pv 1) af)))))
  ak)
  (ae (ck 2 qN (bx G_read_number hr T.b6 (aa (bD Mu (pv 0) (bZ ah) cm) (aa (pv 1) af))))
  (ae (ax (PW.pt (dh (aY (bO (pv 2))) (cu (ptr bE (pv 2) ah))))
  (ai (aj aH))
  ak)
  (ai (aj (FD vA (pv 2))))))),?_}
 left
 by_cases hn:t.cps.toList[0]?=some 45
 ·rw[yF hn] at kk
  let q:=(PySem.StrLaws.subAt_one t 45 0).mpr hn;let es:(decide (0+("-": Str).length<=⇑t)&&Builtin.Str.subAt t "-" 0)=true:=by
   rw[zL];exact{zd q.1,q.2}
  rw[es];exists by ext,?_
  let h1:1<=⇑t:=by have:=q.1;let e:⇑({#[45]}:Str)=1:=rfl;ext
  let e1:(PySem.Txt.slice t (some 1) none).cps.toList=t.cps.toList.drop 1:=DT t h1;exists _,most,rfl,zJ (PySem.Txt.slice_le t _ _) hl,λH1 s1=>?_;rw[e1];let z:=kk H1 s1;cases hr':rn most (t.cps.toList.drop 1) with
  | none=>
   rw[hr'] at z;change z
  | some n=>
   rw[hr'] at z;left
   by_cases e0:n=0
   ·subst e0
    refine bF ∅ ?_;change z
   ·refine bG (zc λy=>e0 (V.int.inj y)) ?_
    left;let z':Q (ov (if n=0 then none else some (-n))) H1:=z;rw[yE e0] at z';exact z'
 ·rw[yE hn] at kk
  let es:(decide (0+("-": Str).length<=⇑t)&&Builtin.Str.subAt t "-" 0)=false:=by
   rw[Bool.eq_false_iff];intro z;rw[zL] at z;exact hn ((PySem.StrLaws.subAt_one t 45 0).mp {zX z.1,z.2})
  rw[es];change{t,most,rfl,hl,λH1 s1=>kk H1 s1}
def jV:cG P w base 3 T.f9 jM:=by
 let G_read_signed:cG P w base 2 T.dP je:=jo T
 nomatch T.f9,["fifths_text","steps_text","fifths","steps"]
 let⟨a,b,rfl,la,lb,kk⟩:=h;unfold rp at kk;refine{_,(ae (ck 2 qN (bx G_read_signed hr T.dP (aa (pv 0) (aa (aN (v:=.int 2) (by rfl) T.jy {_,rfl}) af))))
  (ae (ck 3 qN (bx G_read_signed hr T.dP (aa (pv 1) (aa (aN (v:=.int 2) (by rfl) T.jy {_,rfl}) af))))
  (ae (ax (PW.pt (dh (aY (bO (pv 2))) (cu (aY (bO (pv 3))))))
  (ai (aj aH))
  ak)
  (ae (ax (ptr fB (az b8 (az Eg (pv 3) (az fk (aN (v:=.int 7) (by rfl) T.tZ {_,rfl}) (pv 2))) (aN (v:=.int 12) (by rfl) T.rS {_,rfl})) ah)
  (ai (aj aH))
  ak)
  (ai (aj (bB (aa (pv 2) (aa (pv 3) af))))))))),?_}
 exists a,2,rfl,la,λH1 s1=>?_;exists b,2,rfl,lb,λH2 s2=>?_;let S2:=s1.trans s2;cases ea:rs 2 a with
 | none=>
  rw[ea] at kk;change kk .aU H2 S2 .aU
 | some f=>
  cases eb:rs 2 b with
  | none=>
   rw[ea,eb] at kk;change kk .aU H2 S2 .aU
  | some g=>
   rw[ea,eb] at kk;left
   by_cases hm:(g-7*f)%12=0
   ·refine LQ (yQ V.int hm) ?_
    left;refine{di,laid λp H3 s3 hp=>kk (.ref p) H3 (S2.trans s3) ?_};show Fc H3 (.ref p) (if(g-7*f)%12=0 then some (f,g) else none);rw[yF hm];exact .ref hp
   ·refine bF (by simp[hm]) ?_
    left;refine kk .aU H2 S2 ?_;show Fc H2 .aU (if(g-7*f)%12=0 then some (f,g) else none);rw[yE hm];exact .aU
def jk:bL P w K mg base (DB P w) 3 T.ic T.hX ["text"] (jd T.cY):=by
 let G_read_number:cG P w base 1 T.b6 fi:=fm T;let G_made_length:cG P w base 2 T.cW dZ:=gg T;refine T.cU.F.QQ cT (λvs H Q E h=>?_) (λcdv A' outer s H vs Q E hr h=>?_)
 ·let⟨_,rfl,_⟩:=h;rfl
 ·let⟨t,rfl,lt,k1,k2⟩:=h
  let sl:=yt;let pl:=PyProof.Rows.split_pos t "/";let sh:∀z∈Txt.split t "/",⇑z<=600:=λz hz=>zJ (xx hz) lt;unfold JZ at k1 k2;refine{_,(ae (ck 1 cT.nd (cV yx yB yA gh (pv 0) (aa ay af)))
   (ae (ax (ptr gf (c5 aq T.aP (aa (pv 1) af)) ah)
   (ai (B7 T.i9 T.iW PySem.F.excBase_ValueError rfl (aa ay af)))
   ak)
   (ae (ck 2 cT.nd (bx G_read_number hr T.b6 (aa (eF (pv 1) ah) (aa (aN (v:=.int 4) (by rfl) T.iK {_,rfl}) af))))
   (ae (ck 3 cT.nd ah)
   (ae (ax (ptr bE (c5 aq T.aP (aa (pv 1) af)) ah)
   (ai (ck 3 cT.nd (bx G_read_number hr T.b6 (aa (eF (pv 1) ah) (aa (aN (v:=.int 4) (by rfl) T.iK {_,rfl}) af)))))
   ak)
   (ae (ax (PW.pt (dh (aY (bO (pv 2))) (dh (aY (bO (pv 3))) (cu (ptr bE (pv 3) ah)))))
   (ai (B7 T.i9 T.iW PySem.F.excBase_ValueError rfl (aa ay af)))
   ak)
   (ai (aj (bx G_made_length hr T.cW (aa (pv 2) (aa (pv 3) af))))))))))),?_}
  exists by ext,?_
  generalize Txt.split t "/"= ws at k1 k2 pl sh;intros p1 H1 s1 h1;exists p1,_,rfl,.inl (aD.of h1),?_
  match ws,pl,sh,k1,k2,h1 with
  | [a],_,sh,k1,k2,h1=>
   exists p1,_,0,_,rfl,rfl,aD.of h1,rfl,?_;exists a,4,rfl,sh a (by simp),λH2 s2=>?_;replace h1:=s2 _ _ h1;exists p1,_,rfl,.inl (aD.of h1),?_;cases ea:rn 4 a.cps.toList with
   | none=>
    simp only[ea] at k1 k2;left;refine{by show 1<=sizeLine;decide,k2 trivial H2 (s1.trans s2)}
   | some n=>
    simp only[ea] at k1 k2;let⟨n0,n1,_⟩:=Ic ea ∅;change{_,_,rfl,n0,∅,(bp (n:=1) ∅ ∅).mono ∅,λp3 H3 s3 h3=>k1 _ rfl p3 H3 ((s1.trans s2).trans s3) h3}
  | [a,b],_,sh,k1,k2,h1=>
   exists p1,_,0,_,rfl,rfl,aD.of h1,rfl,?_;exists a,4,rfl,sh a (by simp),λH2 s2=>?_;replace h1:=s2 _ _ h1;exists p1,_,rfl,.inl (aD.of h1),?_;exists p1,_,1,_,rfl,rfl,aD.of h1,rfl,?_;exists b,4,rfl,sh b (by simp),λH3 s3=>?_;let S3:=(s1.trans s2).trans s3;cases ea:rn 4 a.cps.toList with
   | none=>
    simp only[ea] at k1 k2;change{by show 1<=sizeLine;decide,k2 trivial H3 S3}
   | some n=>
    cases eb:rn 4 b.cps.toList with
    | none=>
     simp only[ea,eb] at k1 k2;change{by show 1<=sizeLine;decide,k2 trivial H3 S3}
    | some m=>
     simp only[ea,eb] at k1 k2;let⟨n0,n1,_⟩:=Ic ea ∅;let⟨m0,m1,_⟩:=Ic eb ∅;left
     by_cases e0:m=0
     ·subst e0
      refine bF ∅ ?_;change{by show 1<=sizeLine;decide,k2 rfl H3 S3}
     ·rw[yE e0] at k1
      refine bG (zc λy=>e0 (V.int.inj y)) ?_;change{_,_,rfl,n0,(),(bp (n:=14) () ()).mono ∅,λp4 H4 s4 h4=>k1 _ rfl p4 H4 (S3.trans s4) h4}
  | a::b::c::r,_,sh,k1,k2,h1=>
   left;refine bF (zd (show(2:Int)<(⇑((a::b::c::r).map V.str):Int) by rw[za];simp only[zo];ext)) ?_;change{by show 1<=sizeLine;decide,k2 rfl H1 s1}
def ff:cG P w base 4 T.cq fc:=by
 let G_read_length:bL P w K mg base (DB P w) 3 T.ic T.hX ["text"] (jd T.cY):=jk T
 nomatch T.cq,["text","length"]
 let⟨t,rfl,lt,kk⟩:=h;unfold lr at kk;refine{_,(ae (Ky G_read_length (hr.mono ∅) rfl T.cU.g T.cU.F.kp T.cU.b (aa (pv 0) af) rfl qN (i:=1) rfl (Or.inl rfl) rfl T.i9 T.iW rfl rfl rfl (λe=>(ai (aj aH))))
  (ae (ax (ptr bE (b4 (pv 1) ah) ah)
  (ai (aj aH))
  ak)
  (ai (aj (pv 1))))),?_}
 left;refine{lt,λx ex p1 H1 s1 h1=>?_,λen H1 s1=>{rfl,?_}}
 ·simp only[ex] at kk
  left
  by_cases e0:x.1=0
  ·refine bF (by rw[e0];rfl) ?_
   left;rw[yF e0] at kk;exact kk .aU H1 s1 .aU
  ·refine bG (zc λy=>e0 (V.int.inj y)) ?_
   left;rw[yE e0] at kk;exact kk (.ref p1) H1 s1 (.ref h1)
 ·simp only[en] at kk
  change kk .aU H1 s1 .aU
def KQ {ws:List Str} (h:1<=⇑ws):Bu (ws.map V.str) (-1)=some (.str (ws.getLast?.getD "")):=by
 let ne:ws≠[]:=λz=>by rw[z] at h;simp at h
 let e:=xE ne;let e2:ws.getLast?.getD ""= ws.getLast ne:=by rw[List.getLast?_eq_some_getLast ne];rfl
 rw[e2];let e3:ws.map V.str=ws.dropLast.map V.str++[V.str (ws.getLast ne)]:=by rw[<-List.map_singleton (f:=V.str),<-zg,e]
 rw[e3];exact Di _ _
def Jc {ws:List Str} (h:1<=⇑ws):ws.getLast?.getD "" ∈ws:=by
 let ne:ws≠[]:=λz=>by rw[z] at h;simp at h
 rw[List.getLast?_eq_some_getLast ne];exact List.getLast_mem ne
def tf:cG P w base 5 T.nN lq:=by
 let G_read_item_length:cG P w base 4 T.cq fc:=ff T;let G_read_pitch:cG P w base 3 T.f9 jM:=jV T
 nomatch T.nN,["text","parts","length","pitch"]
 let⟨t,rfl,lt,kk⟩:=h;let sl:=yt;let pl:=PyProof.Rows.split_pos t ":";let sh:∀z∈Txt.split t ":",⇑z<=600:=λz hz=>zJ (xx hz) lt;unfold ir at kk;refine{_,(ae (ck 1 qN (cV yx yB yA gh (pv 0) (aa ay af)))
  (ae (ck 2 qN (bx G_read_item_length hr T.cq (aa (eF (pv 1) (FD vA ah)) af)))
  (ae (ax (aY (bO (pv 2)))
  (ai (aj aH))
  ak)
  (ae (ax (PW.pt (d0 (ptr bE (c5 aq T.aP (aa (pv 1) af)) ah) (c7 (ptr bE (eF (pv 1) ah) ay))))
  (ai (aj (bB (aa aH (aa (pv 2) af)))))
  ak)
  (ae (ax (ptr fB (c5 aq T.aP (aa (pv 1) af)) ah)
  (ai (aj aH))
  ak)
  (ae (ck 3 qN (bx G_read_pitch hr T.f9 (aa (eF (pv 1) ah) (aa (eF (pv 1) ah) af))))
  (ae (ax (aY (bO (pv 3)))
  (ai (aj aH))
  ak)
  (ai (aj (bB (aa (pv 3) (aa (pv 2) af)))))))))))),?_}
 exists by ext,?_
 generalize Txt.split t ":"= ws at kk pl sh;intros p1 H1 s1 h1;exists p1,_,-1,_,rfl,rfl,aD.of h1,KQ pl,?_;refine{_,rfl,sh _ (Jc pl),λv H2 s2 hv=>?_};let h2:=s2 _ _ h1;let S2:=s1.trans s2;generalize lr (ws.getLast?.getD "")=o at kk hv;cases hv with
 | aU=>
  change kk .aU H2 S2 rfl
 | @ref p2 x hx=>
  let kk':∀v H',au H H'->Ln H' v (if ws.dropLast=[("r": Str)] then some (none,x) else match ws.dropLast with
   | [a,b]=>(match rp a b with | some q=>some (some q,x) | none=>none)
   | _=>none)->Q v H':=kk
  clear kk;exists p1,_,rfl,.inl (aD.of h2),?_
  match ws,pl,sh,kk',h2 with
  | [a],_,sh,kk,h2=>
   exists p1,_,rfl,.inl (aD.of h2),?_;change kk .aU H2 S2 rfl
  | [a,b],_,sh,kk,h2=>
   exists p1,_,0,_,rfl,rfl,aD.of h2,rfl,?_;left
   by_cases ea:a ="r"
   ·subst ea
    refine bF ∅ ?_;change{di,laid λp3 H3 s3 h3=>kk (.ref p3) H3 (S2.trans s3) {p3,_,p2,rfl,h3,s3 _ _ hx,.aU}}
   ·refine bG (zc λz=>ea (V.str.inj z)) ?_
    exists p1,_,rfl,.inl (aD.of h2),?_;left;refine kk .aU H2 S2 ?_;rw[yE (by intro z;exact ea (List.cons.inj z).1)];rfl
  | [a,b,c],_,sh,kk,h2=>
   exists p1,_,rfl,.inl (aD.of h2),?_;exists p1,_,0,_,rfl,rfl,aD.of h2,rfl,?_;exists p1,_,1,_,rfl,rfl,aD.of h2,rfl,?_;refine{a,b,rfl,sh a (by simp),sh b (by simp),λv H3 s3 hv=>?_};let kk2:∀v H',au H H'->Ln H' v (match rp a b with | some q=>some (some q,x) | none=>none)->Q v H':=λv H' s' z=>kk v H' s' (by
    rw[yE (by intro y;simp at y)];exact z)
   generalize rp a b=o at kk2 hv;cases hv with
   | aU=>
    change kk2 .aU H3 (S2.trans s3) rfl
   | @ref p4 q hq=>
    change{di,laid λp5 H5 s5 h5=>kk2 (.ref p5) H5 ((S2.trans s3).trans s5) {p5,_,p2,rfl,h5,s5 _ _ (s3 _ _ hx),.ref (s5 _ _ hq)}}
  | a::b::c::d::r,_,sh,kk,h2=>
   exists p1,_,rfl,.inl (aD.of h2),?_;left;refine kk .aU H2 S2 ?_;rw[yE (by intro y;simp at y)];rfl
def Cd:cG P w base 1 T.words_of BF:=by
 nomatch T.words_of,["row"]
 let⟨t,rfl,hl,kk⟩:=h;let sl:=yt;let ple:=PyProof.Rows.split_le t " ";refine{_,(ai (aj (qL (ts:=["word"]) (ys:=[]) (js:=[]) (g:=(bH 0)) (tc:=(oz (eG P5 (aK 0) (tC (.str ""))))) (te:=(aK 0)) (bS (cV yx yB yA gh (pv 0) (aa ay af))) (lE 0) (Fz (ptr fB (pv 0) ay)) (pv 0)))),?_};ac_rfl;exists by ext,?_
 unfold words at kk;generalize Txt.split t " "= ws at kk ple;intros p1 H1 s1 h1;refine{p1,rfl,{_,aD.of h1},?_};refine m6 ⇑ws (λi=>((ws.take i).filter λw=>decide (w≠("": Str))).map V.str) (λi U H'=>H'=H1/\∃v,U=[v]) ?_ () rfl {(rfl),none,rfl} ?_ ?_ ?_ ?_
 ·intro i hi
  rw[za];exact zJ (yX _ _) (by rw[zN];ext)
 ·rintro i U H' hi ⟨rfl,_⟩
  exact Jp (aD.of h1) (by rw[za];exact hi)
 ·rintro U H' ⟨rfl,_⟩
  exact{_,aD.of h1,by rw[za];exact zh _}
 ·rintro i x U H' H2 hi ⟨rfl,v,rfl⟩ ⟨rfl,hy⟩
  let hx:=hy _ (aD.of h1);rw[zH,zb hi] at hx;cases hx;left
  by_cases e:ws[i] =""
  ·refine bG (by rw[e];rfl) ?_
   refine Ho.skip hi ?_ {rfl,_,rfl};show List.map V.str (List.filter _ (List.take (i+1) ws))=List.map V.str (List.filter _ (List.take i ws));rw[xb,zb hi,e,yO];simp
  ·refine bF (by rw[zc λz=>e (V.str.inj z)];rfl) ?_
   left;refine Ho.push hi ?_ {rfl,_,rfl};show List.map V.str (List.filter _ (List.take (i+1) ws))=List.map V.str (List.filter _ (List.take i ws))++[V.str ws[i]];rw[xb,zb hi,yO,zg];have:List.filter (λw=>decide (w≠("": Str))) (Option.toList (some ws[i]))=[ws[i]]:=by simp[e]
   rw[this];rfl
 ·rintro U H' ⟨rfl,_⟩
  rw[zK];exact laid λp H' sm h=>kk p H' (s1.trans sm) h
def bu:cG P w base 2 T.bN gY:=by
 nomatch T.bN,["word"]
 let⟨t,rfl,hl,kk⟩:=h;refine{_,(ai (aj (bx (fm T) hr T.b6 (aa (pv 0) (aa (aN (v:=.int (3)) (by rfl) T.iI {_,rfl}) af))))),?_};ac_rfl;change{_,_,rfl,hl,kk}
def cC:cG P w base 1 T.c6 iQ:=by
 nomatch T.c6,["word"]
 let⟨t,rfl,hl,kk⟩:=h;let sl:=yt;let hz:⇑t<=sizeLine:=()
 let el:⇑t.cps.toList=⇑t:=yH;unfold bM at kk;refine{_,(ae (ax (PW.pt (dh (ptr gF (c5 eA T.aP (aa (pv 0) af)) ah) (cu (ptr gf (c5 eA T.aP (aa (pv 0) af)) (aN (v:=.int (12)) (by rfl) T.rW {_,rfl})))))
  (ai (aj aH))
  ak)
  (ae (ax (cv (bf (c5 (iH rfl) T.Cy (aa (qL (ts:=["sign"]) (ys:=[]) (js:=[]) (te:=(eG (λx y H Q=>∃i j,x=.str i/\y=.str j/\Q (.bl (!(Builtin.Str.occurrences j i 0 ⇑j 1).isEmpty)) H) (aK 0) (tC (.str "abcdefghijklmnopqrstuvwxyz0123456789")))) (IC (pv 0)) (lE 0) aX (bT uM (pv 0) (aN (v:=.str "abcdefghijklmnopqrstuvwxyz0123456789") (by rfl) T.A4 {_,rfl}) (by with_unfolding_all rfl))) af))))
  (ai (aj aH))
  ak)
  (ai (aj (pv 0))))),?_}
 ac_rfl;exists hz,?_;left;refine pz (λc1=>?_) (λc1=>?_)
 ·left
  let z:=kk H (au.refl H);rw[yF (zX c1)] at z;exact z
 let c1':¬(⇑t:Int)<1:=λz=>c1 (zd z);rw[yE c1'] at kk;exists hz,?_;left;refine pz (λc2=>?_) (λc2=>?_)
 ·left
  let z:=kk H (au.refl H);rw[yF (zX c2)] at z;exact z
 let c2':¬(12:Int)<(⇑t:Int):=λz=>c2 (zd z);rw[yE c2'] at kk;left;refine m6 ⇑t (λi=>(t.cps.toList.take i).map λc=>V.bl (decide (c∈sgn))) (λi U H'=>H'=H/\∃v,U=[v]) (λi hi=>by rw[za,zN];ext) () rfl {(rfl),none,rfl} (λi U H' hi _=>hi) (λU H' _=>zh _) ?_ ?_
 ·rintro i x U H1 H2 hi ⟨rfl,v,rfl⟩ ⟨rfl,c,hc,rfl⟩
  left;refine Ho.push hi ?_ {rfl,_,rfl};rw[PySem.StrLaws.found_one];rw[<-yY] at hc;show List.map _ (List.take (i+1) t.cps.toList)=_;rw[xb,hc,zg];rfl
 ·rintro U H1 ⟨rfl,_⟩
  rw[<-el,zK];intros D H2 s2 h2;refine{D,t.cps.toList.map (λc=>decide (c∈sgn)),rfl,aD.of (by rw[h2,zw];rfl),?_};let ea:(t.cps.toList.map (λc=>decide (c∈sgn))).all id=t.cps.toList.all (λc=>decide (c∈sgn)):=by rw[xN];rfl
  rw[ea]
  by_cases ha:t.cps.toList.all (λc=>decide (c∈sgn))=true
  ·rw[ha]
   rw[yF ha] at kk;change kk _ s2
  ·rw[yE ha] at kk
   rw[show t.cps.toList.all (λc=>decide (c∈sgn))=false from by simpa using ha];change kk _ s2
def jW:cG P w base 3 T.gy qo:=by
 nomatch T.gy,["word","lowest","highest","number"]
 let⟨t,lo,hi,rfl,hl,kk⟩:=h;unfold jj at kk;refine{_,(ae (ck 3 qN (bx (bu T) hr T.bN (aa (pv 0) af)))
  (ae (ax (PW.pt (dh (aY (bO (pv 3))) (dh (ptr gF (pv 3) (pv 1)) (cu (ptr gf (pv 3) (pv 2))))))
  (ai (aj aH))
  ak)
  (ai (aj (pv 3))))),?_}
 ac_rfl;exists hl,λH1 s1=>?_;cases e:dN t with
 | none=>
  rw[e] at kk;change kk _ s1
 | some n=>
  rw[e] at kk;left
  by_cases c1:n<lo
  ·refine bF (zd c1) ?_
   simp only[yF c1] at kk;change kk _ s1
  ·refine bG (zc c1) ?_
   simp only[yE c1] at kk;left
   by_cases c2:hi<n
   ·refine bF (zd c2) ?_
    simp only[yF c2] at kk;change kk _ s1
   ·refine bG (zc c2) ?_
    simp only[yE c2] at kk;change kk _ s1
def Ai:cG P w base 4 T.nM vP:=by
 nomatch T.nM,["word"]
 let⟨t,rfl,hl,kk⟩:=h;refine{_,(ai (Kw (jk T) (hr.mono ∅) rfl T.cU.g T.cU.F.kp T.cU.b (aa (pv 0) af) rfl rfl T.i9 T.iW rfl rfl rfl (λe=>(ai (aj aH))))),?_};ac_rfl;left;refine{hl,λx e p H1 s1 h1=>?_,λe H1 s1=>{rfl,?_}}
 ·rw[e] at kk
  exact kk _ H1 s1 (.ref h1)
 ·rw[e] at kk
  change kk _ H1 s1 .aU
def Ah:cG P w base 4 T.nK vO:=by
 nomatch T.nK,["fifths_word","steps_word","turn"]
 let⟨a,b,rfl,la,lb,kk⟩:=h;unfold qB at kk;refine{_,(ae (ck 2 qN (bx (jV T) hr T.f9 (aa (pv 0) (aa (pv 1) af))))
  (ae (ax (PW.pt (dh (aY (bO (pv 2))) (cu (ptr gf (c5 De T.LN (aa (b4 (pv 2) ah) af)) (aN (v:=.int (12)) (by rfl) T.rX {_,rfl})))))
  (ai (aj aH))
  ak)
  (ai (aj (pv 2))))),?_}
 ac_rfl;exists _,_,rfl,la,lb,λv H1 s1 h1=>?_;cases e:rp a b with
 | none=>
  rw[e] at kk h1;cases h1;change kk _ _ s1 .aU
 | some q=>
  rw[e] at kk h1;cases h1 with
  | ref h1=>
   left;refine pz (λc=>?_) (λc=>?_)
   ·simp only[yF (zX c)] at kk
    change kk _ _ s1 .aU
   ·simp only[yE (λz=>c (zd z))] at kk
    change kk _ _ s1 (.ref h1)
def Ci:cG P w base 3 T.qG BI:=by
 nomatch T.qG,["word","key"]
 let⟨t,rfl,hl,kk⟩:=h;unfold B3 at kk;refine{_,(ae (ck 1 qN (bx (jo T) hr T.dP (aa (pv 0) (aa (aN (v:=.int (3)) (by rfl) T.iI {_,rfl}) af))))
  (ae (ax (PW.pt (dh (aY (bO (pv 1))) (cu (ptr gf (c5 De T.LN (aa (pv 1) af)) (aN (v:=.int (7)) (by rfl) T.tY {_,rfl})))))
  (ai (aj aH))
  ak)
  (ai (aj (pv 1))))),?_}
 ac_rfl;exists _,_,rfl,hl,λH1 s1=>?_;cases e:rs 3 t with
 | none=>
  rw[e] at kk;change kk _ s1
 | some n=>
  rw[e] at kk;left;refine pz (λc=>?_) (λc=>?_)
  ·simp only[yF (zX c)] at kk
   change kk _ s1
  ·simp only[yE (λz=>c (zd z))] at kk
   change kk _ s1
def cJ:cG P w base 1 T.bY (sG K):=by
 nomatch T.bY,["values"]
 let⟨a,us,rfl,ha,hl,kk⟩:=h;let sl:=yt;refine{_,(ae (ax (bf (c5 (iG rfl) T.Cw (aa (qL (ts:=["value"]) (ys:=[]) (js:=[]) (te:=(HQ (aK 0))) (bS (pv 0)) (lE 0) aX (nS (bO (pv 0)))) af)))
  (ai (aj aH))
  ak)
  (ai (aj (pv 0)))),?_}
 ac_rfl;exists{_,ha},?_;refine dS (enc:=λv=>v) (ws:=us) (λv=>.bl (eI v)) (λU=>∃v,U=[v]) () (by rw[List.map_id'];exact ha) {(none),rfl} ?_ ?_
 ·rintro v U H1 R hv s1 ⟨_,rfl⟩ r
  change r _ _ _ (au.refl _) (by unfold Is;rfl) {_,rfl}
 ·intro D vs H1 s1 hD il
  let e:us.map (λv=>Dt.bl (eI v))=(us.map eI).map Dt.bl:=by rw[zw];rfl
  rw[e] at il;rw[i6 il] at hD;refine{D,us.map eI,rfl,aD.of hD,?_};let e2:(us.map eI).any id=us.any eI:=by rw[x8];rfl
  rw[e2];cases q:us.any eI with
  | true=>
   rw[q] at kk;change kk _ s1
  | false=>
   rw[q] at kk;change kk _ s1
def du:cG P w base 1 T.bY sF:=by
 nomatch T.bY,["values"]
 let⟨a,us,rfl,ha,hl,kk⟩:=h;let sl:=yt;refine{_,(ae (ax (bf (c5 (iG rfl) T.Cw (aa (qL (ts:=["value"]) (ys:=[]) (js:=[]) (te:=(HQ (aK 0))) (lW (pv 0)) (lE 0) aX (nS (bO (pv 0)))) af)))
  (ai (aj aH))
  ak)
  (ai (aj (pv 0)))),?_}
 ac_rfl;exists{_,cx.of ha},?_;refine gq (enc:=λv=>v) (ws:=us) (λv=>.bl (eI v)) (λU=>∃v,U=[v]) () (by rw[List.map_id'];exact ha) {(none),rfl} ?_ ?_
 ·rintro v U H1 R hv s1 ⟨_,rfl⟩ r
  change r _ _ _ (au.refl _) (by unfold Is;rfl) {_,rfl}
 ·intro D vs H1 s1 hD il
  let e:us.map (λv=>Dt.bl (eI v))=(us.map eI).map Dt.bl:=by rw[zw];rfl
  rw[e] at il;rw[i6 il] at hD;refine{D,us.map eI,rfl,aD.of hD,?_};let e2:(us.map eI).any id=us.any eI:=by rw[x8];rfl
  rw[e2];cases q:us.any eI with
  | true=>
   rw[q] at kk;change kk _ s1
  | false=>
   rw[q] at kk;change kk _ s1
theorem rf (n:Int):∀ns:List Int,Hq (.int n) (ns.map V.int)=decide (n∈ns)
 | []=>rfl
 | m::ns=>by
  let ih:=rf n ns;unfold Hq at ih ⊢;rw[zf,y9,ih]
  by_cases e:n=m
  ·subst e
   simp[GX]
  ·simp[GX,e,Ne.symm (a:=m) (b:=n) (λz=>e z.symm)]
   try ext
def Ea {t a b:Str} (h:Txt.split t "/"= [a,b]):fZ t=(match jj a 1 32,dN b with | some m,some n=>if n∈A9 then some (m,n) else none | _,_=>none):=by unfold fZ;rw[h];try rfl
def Gz {t:Str} (h:(Txt.split t "/").length≠2):fZ t=none:=by
 unfold fZ;split
 ·rename_i e;rw[e] at h;exact absurd rfl h
 ·rfl
def Ij {t a b:Str} (h:Txt.split t ":"= [a,b]):qD t=(match dN a,kr ((Txt.split b ",").map dN) with | some n,some ps=>some (n,ps) | _,_=>none):=by unfold qD;rw[h];try rfl
def Kr {t:Str} (h:(Txt.split t ":").length≠2):qD t=none:=by
 unfold qD;split
 ·rename_i e;rw[e] at h;exact absurd rfl h
 ·rfl
def tu:cG P w base 4 T.lT (sE K):=by
 nomatch T.lT,["word","parts","top","bottom"]
 let⟨t,rfl,hl,kk⟩:=h;let sl:=yt;let sh:∀z∈Txt.split t "/",⇑z<=600:=λz hz=>zJ (xx hz) hl;refine{_,(ae (ck 1 qN (cV yx yB yA gh (pv 0) (aa ay af)))
  (ae (ax (ptr fB (c5 aq T.aP (aa (pv 1) af)) ah)
  (ai (aj aH))
  ak)
  (ae (ck 2 qN (bx (jW T) hr T.gy (aa (eF (pv 1) ah) (aa ah (aa (aN (v:=.int (32)) (by rfl) T.pF {_,rfl}) af)))))
  (ae (ck 3 qN (bx (bu T) hr T.bN (aa (eF (pv 1) ah) af)))
  (ae (ax (PW.pt (dh (aY (bO (pv 2))) (cu (kD d4 (pv 3) (aN (v:=.ref T.cH) (by rfl) T.pE rfl) (by with_unfolding_all rfl)))))
  (ai (aj aH))
  ak)
  (ai (aj (bB (aa (pv 2) (aa (pv 3) af)))))))))),?_}
 ac_rfl;exists by ext,?_
 generalize ew:Txt.split t "/"= ws at sh;intros p1 H1 s1 h1;exists p1,_,rfl,.inl (aD.of h1),?_;rw[za];left
 by_cases hw:⇑ws=2
 ·obtain⟨a,b,rfl⟩:∃a b,ws=[a,b]:=by
   match ws,hw with
   | [a,b],_=>exact{(a),b,rfl}
  refine bG rfl ?_;exists p1,_,0,_,rfl,rfl,aD.of h1,rfl,?_;refine{_,_,_,rfl,sh a (by simp),λH2 s2=>?_};exists p1,_,1,_,rfl,rfl,aD.of (s2 _ _ h1),rfl,?_;refine{_,rfl,sh b (by simp),λH3 s3=>?_};let s03:=(s1.trans s2).trans s3;rw[Ea ew] at kk;cases ea:jj a 1 32 with
  | none=>
   rw[ea] at kk;change kk _ _ s03 .aU
  | some m=>
   rw[ea] at kk;left;cases eb:dN b with
   | none=>
    rw[eb] at kk;refine{T.cH,_,rfl,.inr (T.jv H3),rfl,rfl,?_};change kk _ _ s03 .aU
   | some n=>
    rw[eb] at kk;refine{T.cH,A9.map V.int,rfl,.inr (T.jv H3),rfl,rfl,?_};show∃k,V.bl (!Hq (.int n) (A9.map V.int))=.bl k/\_;rw[rf]
    by_cases c:n∈A9
    ·rw[zd c]
     simp only[yF c] at kk;left;refine{di,laid λp4 H4 s4 h4=>kk _ _ (s03.trans s4) (.ref h4)}
    ·rw[zc c]
     simp only[yE c] at kk;change kk _ _ s03 .aU
 ·refine bF (by rw[zc λz=>hw (by have:=V.int.inj z;ext)];rfl) ?_
  left;rw[Gz (by rw[ew];exact hw)] at kk;exact kk _ _ s1 .aU
def Cj:cG P w base 4 T.qH oB:=by
 nomatch T.qH,["word","parts","bar","passes"]
 let⟨t,rfl,hl,kk⟩:=h;let sl:=yt;let sh:∀z∈Txt.split t ":",⇑z<=600:=λz hz=>zJ (xx hz) hl;refine{_,(ae (ck 1 qN (cV yx yB yA gh (pv 0) (aa ay af)))
  (ae (ax (ptr fB (c5 aq T.aP (aa (pv 1) af)) ah)
  (ai (aj aH))
  ak)
  (ae (ck 2 qN (bx (bu T) hr T.bN (aa (eF (pv 1) ah) af)))
  (ae (ck 3 qN (bx (cJ T) hr T.bY (aa (qL (ts:=["part"]) (ys:=[]) (js:=[]) (te:=(cy gY [] E0 (aF (aK 0) bK))) (bS (cV yx yB yA gh (eF (pv 1) ah) (aa ay af))) (lE 0) aX (bx (bu T) hr T.bN (aa (pv 0) af))) af)))
  (ae (ax (PW.pt (dh (aY (bO (pv 2))) (cu (aY (bO (pv 3))))))
  (ai (aj aH))
  ak)
  (ai (aj (bB (aa (pv 2) (aa (FG eV T.kF (aa (pv 3) af)) af)))))))))),?_}
 ac_rfl;exists by ext,?_
 generalize ew:Txt.split t ":"= ws at sh;intros p1 H1 s1 h1;exists p1,_,rfl,.inl (aD.of h1),?_;rw[za];left
 by_cases hw:⇑ws=2
 ·obtain⟨a,b,rfl⟩:∃a b,ws=[a,b]:=by
   match ws,hw with
   | [a,b],_=>exact{(a),b,rfl}
  refine bG rfl ?_;exists p1,_,0,_,rfl,rfl,aD.of h1,rfl,?_;refine{_,rfl,sh a (by simp),λH2 s2=>?_};exists p1,_,1,_,rfl,rfl,aD.of (s2 _ _ h1),rfl,?_;left;let lb:=sh b (by simp);let bl:=PyProof.Rows.split_le b ",";let bsh:∀z∈Txt.split b ",",⇑z<=600:=λz hz=>zJ (xx hz) lb;refine{(),?_};rw[Ij ew] at kk;generalize Txt.split b ","= bs at kk bl bsh;intros p3 H3 s3 h3;exists{_,aD.of h3},?_;refine dS (enc:=V.str) (ws:=bs) (λz=>dO .int (dN z)) (λU=>∃v,U=[v]) () (aD.of h3) {(none),rfl} ?_ ?_
  ·rintro z U H4 R hz s4 ⟨_,rfl⟩ r
   change{bsh z hz,λH5 s5=>r _ _ _ s5 (ra _) {_,rfl}}
  ·intro D vs H4 s4 hD il
   let s04:=((s1.trans s2).trans s3).trans s4;refine{D,vs,rfl,aD.of hD,by rw[il.len,za];ext,λH5 s5=>?_};let e1:bs.map (λz=>dO Dt.int (dN z))=(bs.map dN).map (dO Dt.int):=by rw[zw];rfl
   rw[e1] at il;rw[gM il];cases q:((bs.map dN).map (dO Dt.int)).any Dt.eI with
   | true=>
    rw[fY Jv q] at kk;let kn:=kk .aU H5 (s04.trans s5) (by cases dN a <;> (unfold dO Is;rfl));cases ea:dN a with
    | none=>change kn
    | some n=>change kn
   | false=>
    let⟨xs,e2,e3,e4⟩:=fX q;rw[e2] at kk;rw[e3] at il;let ev:=gK il;subst ev;cases ea:dN a with
    | none=>
     rw[ea] at kk;change kk .aU H5 (s04.trans s5) (by unfold dO Is;rfl)
    | some n=>
     rw[ea] at kk;left;refine{D,_,rfl,.inl {aD.of (s5 _ _ hD),?_}};intros p6 H6 s6 h6;left;refine{di,laid λp7 H7 s7 h7=>kk _ _ (((s04.trans s5).trans s6).trans s7) ?_};show Is H7 (.tup [.int n,.tup (xs.map .int)]) _;unfold Is;refine{p7,_,rfl,h7,?_};unfold ar;refine{_,_,rfl,by unfold Is;rfl,?_};unfold ar;refine{_,_,rfl,?_,by unfold ar;rfl};unfold Is;exact{p6,_,rfl,s7 _ _ h6,AB}
 ·refine bF (by rw[zc λz=>hw (by have:=V.int.inj z;ext)];rfl) ?_
  left;rw[Kr (by rw[ew];exact hw)] at kk;exact kk _ _ s1 (by unfold dO Is;rfl)
def IP {α:Type} {f:Str->Option α} {ws:List Str} (h:⇑ws≠1):one f ws=none:=by
 match ws,h with
 | [],_=>rfl
 | [_],h=>exact absurd rfl h
 | _::_::_,_=>rfl
def qS:cG P w base 2 T.gB (dY K (lI .str (one bM))):=by
 nomatch T.gB,["words"]
 let⟨p,ws,rfl,hp,hl,sh,kk⟩:=h;refine{_,(ae (ax (ptr fB (c5 aq T.aP (aa (pv 0) af)) ah)
  (ai (aj aH))
  ak)
  (ai (aj (bx (cC T) hr T.c6 (aa (eF (pv 0) ah) af))))),?_}
 ac_rfl;exists p,_,rfl,.inl hp,?_;rw[za];left
 by_cases hw:⇑ws=1
 ·obtain⟨a,rfl⟩:∃a,ws=[a]:=by
   match ws,hw with
   | [a],_=>exact{(a),rfl}
  refine bG rfl ?_;exists p,_,0,_,rfl,rfl,hp,rfl,?_;exact{_,rfl,sh a (by simp),λH1 s1=>kk _ _ s1 (uV _)}
 ·refine bF (by rw[zc λz=>hw (by have:=V.int.inj z;ext)];rfl) ?_
  left;refine kk _ _ (au.refl _) ?_;unfold lI;rw[IP hw];exact cM
def qQ:cG P w base 5 T.gz (dY K (lI dL (one lr))):=by
 nomatch T.gz,["words"]
 let⟨p,ws,rfl,hp,hl,sh,kk⟩:=h;refine{_,(ae (ax (ptr fB (c5 aq T.aP (aa (pv 0) af)) ah)
  (ai (aj aH))
  ak)
  (ai (aj (bx (ff T) hr T.cq (aa (eF (pv 0) ah) af))))),?_}
 ac_rfl;exists p,_,rfl,.inl hp,?_;rw[za];left
 by_cases hw:⇑ws=1
 ·obtain⟨a,rfl⟩:∃a,ws=[a]:=by
   match ws,hw with
   | [a],_=>exact{(a),rfl}
  refine bG rfl ?_;exists p,_,0,_,rfl,rfl,hp,rfl,?_;exact{_,rfl,sh a (by simp),λv H1 s1 h1=>kk _ _ s1 (q9 h1)}
 ·refine bF (by rw[zc λz=>hw (by have:=V.int.inj z;ext)];rfl) ?_
  left;refine kk _ _ (au.refl _) ?_;unfold lI;rw[IP hw];exact cM
def A1 {α:Type} (d:α->Dt) (o:Option α):dO d o=(o.map d).getD .aU:=by cases o <;> rfl
def Be {H:Hp} {ds:List Dt} {us:List V} {a:wV} {d:Option Dt} (ha:H a=some (.tup us)) (il:ar H ds us) (h1:ds.any Dt.eI=true->d=none) (h2:ds.any Dt.eI=false->d=some (.tup ds)):Is H (d.getD .aU) (if us.any eI=true then .aU else .ref a):=by
 rw[gM il];cases q:ds.any Dt.eI with
 | true=>rw[h1 q];exact cM
 | false=>rw[h2 q];exact d7 ha il
def lX:cG P w base 5 T.dC (dY K (lI l8 iV)):=by
 nomatch T.dC,["words"]
 let⟨p,ws,rfl,hp,hl,sh,kk⟩:=h;refine{_,(ae (ax (ptr fB (c5 aq T.aP (aa (pv 0) af)) ah)
  (ai (aj aH))
  ak)
  (ai (aj (bx (du T) hr T.bY (aa (bB (aa (bx (cC T) hr T.c6 (aa (eF (pv 0) ah) af)) (aa (bx (Ah T) hr T.nK (aa (eF (pv 0) ah) (aa (eF (pv 0) ah) af))) (aa (bx (Ai T) hr T.nM (aa (eF (pv 0) ah) af)) af)))) af))))),?_}
 ac_rfl;exists p,_,rfl,.inl hp,?_;rw[za];left
 by_cases hw:⇑ws=4
 ·obtain⟨a,b,c,d,rfl⟩:∃a b c d,ws=[a,b,c,d]:=by
   match ws,hw with
   | [a,b,c,d],_=>exact{(a),b,c,d,rfl}
  refine bG rfl ?_;exists p,_,0,_,rfl,rfl,hp,rfl,?_;refine{_,rfl,sh a (by simp),λH1 s1=>?_};exists p,_,1,_,rfl,rfl,s1.seq hp,rfl,?_;exists p,_,2,_,rfl,rfl,s1.seq hp,rfl,?_;refine{_,_,rfl,sh b (by simp),sh c (by simp),λv2 H2 s2 h2=>?_};exists p,_,3,_,rfl,rfl,(s1.trans s2).seq hp,rfl,?_;refine{_,rfl,sh d (by simp),λv3 H3 s3 h3=>?_};exists qq,?_;intros p4 H4 s4 h4;let s24:=s3.trans s4;refine{p4,_,rfl,h4,(by show 3<=1000000;decide),λH5 s5=>kk _ _ (((s1.trans s2).trans s24).trans s5) ?_};unfold lI;rw[A1];refine Be (s5 _ _ h4) (aM (uV _) (aM (q9 (h2.mono (s24.trans s5))) (dH (q9 (h3.mono (s4.trans s5)))))) ?_ ?_
  ·simp only[iV]
   cases bM a <;> cases qB b c <;> cases JZ d <;> first | (intro _;rfl) | (intro q;exact absurd q (by simp[dO,dL,Dt.eI]))
  ·simp only[iV]
   cases bM a <;> cases qB b c <;> cases JZ d <;> first | (intro _;rfl) | (intro q;exact absurd q (by simp[dO,dL,Dt.eI]))
 ·refine bF (by rw[zc λz=>hw (by have:=V.int.inj z;ext)];rfl) ?_
  left;refine kk _ _ (au.refl _) ?_;let e:iV ws=none:=by
   unfold iV;split
   ·exact absurd rfl hw
   ·rfl
  unfold lI;rw[e];exact cM
def Ak:cG P w base 3 T.kC (dY K (lI oU mH)):=by
 nomatch T.kC,["words"]
 let⟨p,ws,rfl,hp,hl,sh,kk⟩:=h;refine{_,(ae (ax (ptr fB (c5 aq T.aP (aa (pv 0) af)) ah)
  (ai (aj aH))
  ak)
  (ai (aj (bx (du T) hr T.bY (aa (bB (aa (bx (cC T) hr T.c6 (aa (eF (pv 0) ah) af)) (aa (bx (bu T) hr T.bN (aa (eF (pv 0) ah) af)) (aa (bx (cC T) hr T.c6 (aa (eF (pv 0) ah) af)) af)))) af))))),?_}
 ac_rfl;exists p,_,rfl,.inl hp,?_;rw[za];left
 by_cases hw:⇑ws=3
 ·obtain⟨a,b,c,rfl⟩:∃a b c,ws=[a,b,c]:=by
   match ws,hw with
   | [a,b,c],_=>exact{(a),b,c,rfl}
  refine bG rfl ?_;exists p,_,0,_,rfl,rfl,hp,rfl,?_;refine{_,rfl,sh a (by simp),λH1 s1=>?_};exists p,_,1,_,rfl,rfl,s1.seq hp,rfl,?_;refine{_,rfl,sh b (by simp),λH2 s2=>?_};exists p,_,2,_,rfl,rfl,(s1.trans s2).seq hp,rfl,?_;refine{_,rfl,sh c (by simp),λH3 s3=>?_};exists qq,?_;intros p4 H4 s4 h4;refine{p4,_,rfl,h4,(by show 3<=1000000;decide),λH5 s5=>kk _ _ (((s1.trans s2).trans (s3.trans s4)).trans s5) ?_};unfold lI;rw[A1];refine Be (s5 _ _ h4) (aM (uV _) (aM (ra _) (dH (uV _)))) ?_ ?_
  ·simp only[mH]
   cases bM a <;> cases dN b <;> cases bM c <;> first | (intro _;rfl) | (intro q;exact absurd q (by simp[dO,dL,Dt.eI]))
  ·simp only[mH]
   cases bM a <;> cases dN b <;> cases bM c <;> first | (intro _;rfl) | (intro q;exact absurd q (by simp[dO,dL,Dt.eI]))
 ·refine bF (by rw[zc λz=>hw (by have:=V.int.inj z;ext)];rfl) ?_
  left;refine kk _ _ (au.refl _) ?_;let e:mH ws=none:=by
   unfold mH;split
   ·exact absurd rfl hw
   ·rfl
  unfold lI;rw[e];exact cM
def jZ {H:Hp} {ws:List Str} {vs:List V} {α:Type} {d:α->Dt} {f:Str->Option α} (il:ar H (ws.map λz=>dO d (f z)) vs):ar H ((ws.map f).map (dO d)) vs:=by
 let e:ws.map (λz=>dO d (f z))=(ws.map f).map (dO d):=by rw[zw];rfl
 rw[<-e];exact il
def tm:cG P w base 2 T.iT (dY K (lI ki lV)):=by
 nomatch T.iT,["words","names"]
 let⟨p,ws,rfl,hp,hl,sh,kk⟩:=h;let sl:=yt;refine{_,(ae (ax (ptr gF (c5 aq T.aP (aa (pv 0) af)) ah)
  (ai (aj aH))
  ak)
  (ae (ck 1 qN (bx (cJ T) hr T.bY (aa (qL (ts:=["word"]) (ys:=[]) (js:=[]) (te:=(cy iQ [] E0 (aF (aK 0) bK))) (bS (pv 0)) (lE 0) aX (bx (cC T) hr T.c6 (aa (pv 0) af))) af)))
  (ae (ax (aY (bO (pv 1)))
  (ai (aj aH))
  ak)
  (ai (aj (bB (aa (eF (pv 1) ah) (aa (FG eV T.kF (aa (bD cB (pv 1) (bZ ah) cm) af)) af)))))))),?_}
 ac_rfl;exists p,_,rfl,.inl hp,?_;rw[za];left;refine pz (λc=>?_) (λc=>?_)
 ·left
  refine kk _ _ (au.refl _) ?_;let hw:=zX c;let e:lV ws=none:=by
   unfold lV;split
   ·simp at hw;ext
   ·rfl
  unfold lI;rw[e];exact cM
 ·let hw:¬(⇑ws:Int)<2:=λz=>c (zd z)
  obtain⟨a,b,r,rfl⟩:∃a b r,ws=a::b::r:=by
   match ws,hw with
   | [],h=>exact absurd (by simp) h
   | [_],h=>exact absurd (by simp) h
   | a::b::r,_=>exact{(a),b,r,rfl}
  exists{_,hp},?_;refine dS (enc:=V.str) (ws:=a::b::r) (λz=>dO .str (bM z)) (λU=>∃v,U=[v]) () hp {(none),rfl} ?_ ?_
  ·rintro z U H4 R hz s4 ⟨_,rfl⟩ r
   change{sh z hz,λH5 s5=>r _ _ _ s5 (uV _) {_,rfl}}
  ·intro D vs H4 s4 hD il
   refine{D,vs,rfl,aD.of hD,by rw[il.len,za];ext,λH5 s5=>?_};let il:=jZ il;rw[gM il];cases q:(((a::b::r).map bM).map (dO Dt.str)).any Dt.eI with
   | true=>
    left;refine kk _ _ (s4.trans s5) ?_;unfold lI;rw[lU,fY CM q];exact cM
   | false=>
    let⟨xs,e2,e3,e4⟩:=fX q;rw[e3] at il;let ev:=gJ il;subst ev;obtain⟨n,ps,rfl⟩:∃n ps,xs=n::ps:=by
     match xs,e4 with
     | n::ps,_=>exact{(n),ps,rfl}
    let hD5:=s5 _ _ hD;exists D,_,0,_,rfl,rfl,aD.of hD5,aQ (j:=0) rfl,?_;exists D,_,rfl,aD.of hD5,?_;rw[show gm (List.map V.str (n::ps)) (some 1) none=ps.map V.str from(cK _ 1).trans rfl];intros p6 H6 s6 h6;left;refine{p6,_,rfl,.inl {aD.of h6,?_}};intros p7 H7 s7 h7;left;refine{di,laid λp8 H8 s8 h8=>kk _ _ (((((s4.trans s5).trans s6).trans s7)).trans s8) ?_};unfold lI;rw[lU,e2];exact d7 h8 (aM lY (dH (d7 (s8 _ _ h7) vI)))
def Ck:cG P w base 5 T.mF (dY K (lI rN sZ)):=by
 nomatch T.mF,["words","marks"]
 let⟨p,ws,rfl,hp,hl,sh,kk⟩:=h;let sl:=yt;refine{_,(ae (ax (ptr gF (c5 aq T.aP (aa (pv 0) af)) ah)
  (ai (aj aH))
  ak)
  (ae (ck 1 qN (bx (cJ T) hr T.bY (aa (qL (ts:=["word"]) (ys:=[]) (js:=[]) (te:=(cy iQ [] E0 (aF (aK 0) bK))) (bS (bD cB (pv 0) (bZ ah) cm)) (lE 0) aX (bx (cC T) hr T.c6 (aa (pv 0) af))) af)))
  (ae (ax (aY (bO (pv 1)))
  (ai (aj aH))
  ak)
  (ai (aj (bx (du T) hr T.bY (aa (bB (aa (bx (tu T) hr T.lT (aa (eF (pv 0) ah) af)) (aa (bx (Ci T) hr T.qG (aa (eF (pv 0) ah) af)) (aa (FG eV T.kF (aa (pv 1) af)) af)))) af))))))),?_}
 ac_rfl;exists p,_,rfl,.inl hp,?_;rw[za];left;refine pz (λc=>?_) (λc=>?_)
 ·left
  refine kk _ _ (au.refl _) ?_;let hw:=zX c;let e:sZ ws=none:=by
   unfold sZ;split
   ·simp at hw;ext
   ·rfl
  unfold lI;rw[e];exact cM
 ·let hw:¬(⇑ws:Int)<2:=λz=>c (zd z)
  obtain⟨a,b,r,rfl⟩:∃a b r,ws=a::b::r:=by
   match ws,hw with
   | [],h=>exact absurd (by simp) h
   | [_],h=>exact absurd (by simp) h
   | a::b::r,_=>exact{(a),b,r,rfl}
  rw[zo,zo] at hl;exists p,_,rfl,hp,?_;rw[show gm (List.map V.str (a::b::r)) (some 2) none=r.map V.str from(cK _ 2).trans rfl];intros p1 H1 s1 h1;exists{_,aD.of h1},?_;refine dS (enc:=V.str) (ws:=r) (λz=>dO .str (bM z)) (λU=>∃v,U=[v]) () (aD.of h1) {(none),rfl} ?_ ?_
  ·rintro z U H4 R hz s4 ⟨_,rfl⟩ r
   change{sh z (by simp[hz]),λH5 s5=>r _ _ _ s5 (uV _) {_,rfl}}
  ·intro D vs H4 s4 hD il
   refine{D,vs,rfl,aD.of hD,by rw[il.len,za];ext,λH5 s5=>?_};let il:=jZ il;rw[gM il];let s05:=(s1.trans s4).trans s5;cases q:((r.map bM).map (dO Dt.str)).any Dt.eI with
   | true=>
    left;refine kk _ _ s05 ?_;unfold lI;simp only[sZ];rw[fY CM q];exact cM
   | false=>
    let⟨xs,e2,e3,e4⟩:=fX q;rw[e3] at il;let ev:=gJ il;subst ev;let hD5:=s5 _ _ hD;exists p,_,0,_,rfl,rfl,s05.seq hp,aQ (j:=0) rfl,?_;refine{_,rfl,sh a (by simp),λv6 H6 s6 h6=>?_};exists p,_,1,_,rfl,rfl,(s05.trans s6).seq hp,aQ (j:=1) rfl,?_;refine{_,rfl,sh b (by simp),λH7 s7=>?_};left;refine{D,_,rfl,.inl {aD.of (s7 _ _ (s6 _ _ hD5)),?_}};intros p8 H8 s8 h8;exists qq,?_;intros p9 H9 s9 h9;refine{p9,_,rfl,h9,(by show 3<=1000000;decide),λHx sx=>kk _ _ (((((s05.trans s6).trans s7).trans s8).trans s9).trans sx) ?_};unfold lI;rw[A1];refine Be (ds:=[dO dL (fZ a),dO .int (B3 b),lG xs]) (sx _ _ h9) (aM (q9 (h6.mono (((s7.trans s8).trans s9).trans sx))) (aM (ra _) (dH (d7 (sx _ _ (s9 _ _ h8)) vI)))) ?_ ?_
    ·simp only[sZ]
     rw[e2];cases fZ a <;> cases B3 b <;> first | (intro _;rfl) | (intro q;exact absurd q (by simp[dO,dL,Dt.eI,lG]))
    ·simp only[sZ]
     rw[e2];cases fZ a <;> cases B3 b <;> first | (intro _;rfl) | (intro q;exact absurd q (by simp[dO,dL,Dt.eI,lG]))
theorem kL {H:Hp} {α:Type} {d:α->Dt}:∀{xs:List α} {vs:List V},ar H (xs.map d) vs->∃ps:List (α×V),ps.map (·.1)=xs/\ps.map (·.2)=vs/\∀q∈ps,Is H (d q.1) q.2
 | [],_,h=>by unfold ar at h;exact{[],rfl,h.symm,λ_ z=>nomatch z}
 | x::xs,_,h=>by
  rw[zf] at h;unfold ar at h;let⟨u,r,rfl,h1,h2⟩:=h;let⟨ps,e1,e2,hh⟩:=kL h2;refine{(x,u)::ps,by simp[e1],by simp[e2],λq m=>?_};rcases zA.mp m with e | m
  ·subst e;exact h1
  ·exact hh q m
def item_at {H:Hp} {it:Item} {v:V} (h:Is H (gk it) v):∃a pv lv,v=.ref a/\H a=some (.tup [pv,lv])/\Is H (dO dL it.1) pv/\Is H (dL it.2) lv:=by
 unfold gk Is at h;let⟨a,vs,rfl,ha,hl⟩:=h;unfold ar at hl;let⟨pv,r,rfl,h1,hl⟩:=hl;unfold ar at hl;let⟨lv,r,rfl,h2,hl⟩:=hl;unfold ar at hl;subst hl;exact{(a),pv,lv,rfl,ha,h1,h2}
def OK {H:Hp} {α:Type} {d:α->Dt} (f:Fe d) {o:Option α} {v:V} (h:Is H (dO d o) v):eI v=o.isNone:=by
 rw[Jj h];cases o with
 | none=>rfl
 | some x=>exact f x
def tq:cG P w base 6 T.iU (dY K O1):=by
 nomatch T.iU,["words","items"]
 let⟨p,ws,rfl,hp,hl,sh,kk⟩:=h;let sl:=yt;refine{_,(ae (ax (ptr gF (c5 aq T.aP (aa (pv 0) af)) ah)
  (ai (aj aH))
  ak)
  (ae (ck 1 qN (bx (cJ T) hr T.bY (aa (qL (ts:=["word"]) (ys:=[]) (js:=[]) (te:=(cy lq [] E0 (aF (aK 0) bK))) (bS (bD cB (pv 0) (bZ ah) cm)) (lE 0) aX (bx (tf T) hr T.nN (aa (pv 0) af))) af)))
  (ae (ax (PW.pt (dh (aY (bO (pv 1))) (cu (bf (c5 (iH rfl) T.Cy (aa (qL (ts:=["item"]) (ys:=[]) (js:=[]) (te:=(HQ (eG (nO K) (aK 0) (tC (.int (0)))))) (bS (pv 1)) (lE 0) aX (nS (bO (b4 (pv 0) ah)))) af))))))
  (ai (aj aH))
  ak)
  (ai (aj (bx (du T) hr T.bY (aa (bB (aa (bx (bu T) hr T.bN (aa (eF (pv 0) ah) af)) (aa (bx (cC T) hr T.c6 (aa (eF (pv 0) ah) af)) (aa (pv 1) af)))) af))))))),?_}
 ac_rfl;exists p,_,rfl,.inl hp,?_;rw[za];left;refine pz (λc=>?_) (λc=>?_)
 ·left
  refine kk _ _ (au.refl _) ?_;let hw:=zX c;let e:g9 ws=none:=by
   unfold g9;split
   ·simp at hw;ext
   ·rfl
  unfold O1;rw[e]
 ·let hw:¬(⇑ws:Int)<3:=λz=>c (zd z)
  obtain⟨a,b,i,r,rfl⟩:∃a b i r,ws=a::b::i::r:=by
   match ws,hw with
   | [],h=>exact absurd (by simp) h
   | [_],h=>exact absurd (by simp) h
   | [_,_],h=>exact absurd (by simp) h
   | a::b::i::r,_=>exact{(a),b,i,r,rfl}
  let en:g9 (a::b::i::r)=(match kr ((i::r).map ir) with | some l=>if l.all (λit=>it.1.isNone)=true then none else(match dN a,bM b with | some x,some y=>some (x,y,l) | _,_=>none) | none=>none):=rfl;unfold O1 at kk;rw[en] at kk;let sh':∀z∈i::r,⇑z<=600:=λz hz=>sh z (by simp at hz ⊢;rcases hz with h | h <;> simp[h]);let hl':⇑(i::r)<=1000000:=by simp at hl ⊢;ext
  exists p,_,rfl,hp,?_;rw[show gm (List.map V.str (a::b::i::r)) (some 2) none=(i::r).map V.str from(cK _ 2).trans rfl];clear en;generalize i::r=its at kk sh' hl';intros p1 H1 s1 h1;exists{_,aD.of h1},?_;refine gp (enc:=V.str) (ws:=its) (λz=>dO gk (ir z)) (λU=>∃v,U=[v]) () (aD.of h1) {(none),rfl} ?_ ?_
  ·rintro z U H4 R hz s4 ⟨_,rfl⟩ r
   change{sh' z hz,λv H5 s5 h5=>r _ _ _ s5 (OJ h5) {_,rfl}}
  ·intro D vs H4 s4 nD hD il
   refine{D,vs,rfl,aD.of hD,by rw[il.len,za];ext,λH5 s5=>?_};let il:=jZ il;rw[gM il];let s05:=(s1.trans s4).trans s5;cases q:((its.map ir).map (dO gk)).any Dt.eI with
   | true=>
    left;refine kk _ _ s05 ?_;rw[fY GV q]
   | false=>
    let⟨xs,e2,e3,e4⟩:=fX q;rw[e3] at il;rw[e2] at kk;let il5:=il.mono s5;let hD5:=s5 _ _ hD;let⟨ps,f1,f2,f3⟩:=kL il5;let pl:⇑ps<=1000000:=by
     have:⇑ps=⇑xs:=by rw[<-f1,za]
     rw[this,e4,za];exact hl'
    exists{_,aD.of hD5},?_;refine dS (enc:=λq:Item×V=>q.2) (ws:=ps) (λq=>.bl q.1.1.isNone) (λU=>∃v,U=[v]) () (by rw[f2];exact aD.of hD5) {(none),rfl} ?_ ?_
    ·rintro z U H6 R hz s6 ⟨_,rfl⟩ r
     let⟨a6,pv,lv,ev,h6,h7,h8⟩:=item_at (f3 z hz);rw[ev];let h66:=s6 _ _ h6;left;refine r _ _ _ (au.refl _) ?_ {_,rfl};rw[<-OK Nc h7];unfold Is;rfl
    ·intro D2 vs2 H6 s6 hD2 il2
     let e5:ps.map (λq=>Dt.bl q.1.1.isNone)=(ps.map λq=>q.1.1.isNone).map Dt.bl:=by rw[zw];rfl
     rw[e5] at il2;rw[i6 il2] at hD2;refine{D2,_,rfl,aD.of hD2,?_};let e6:(ps.map λq=>q.1.1.isNone).all id=xs.all λit=>it.1.isNone:=by rw[<-f1,xN,xN];rfl
     rw[e6];cases qa:xs.all λit=>it.1.isNone with
     | true=>
      dsimp only at kk;rw[qa] at kk;change kk _ _ (s05.trans s6) rfl
     | false=>
      dsimp only at kk;rw[qa] at kk;let s06:=s05.trans s6;exists p,_,0,_,rfl,rfl,s06.seq hp,aQ (j:=0) rfl,?_;refine{_,rfl,sh a (by simp),λH7 s7=>?_};exists p,_,1,_,rfl,rfl,(s06.trans s7).seq hp,aQ (j:=1) rfl,?_;refine{_,rfl,sh b (by simp),λH8 s8=>?_};exists qq,?_;intros p9 H9 s9 h9;let s59:=((s6.trans s7).trans s8).trans s9;refine{p9,_,rfl,h9,(by show 3<=1000000;decide),λHx sx=>kk _ _ ((s05.trans s59).trans sx) ?_};let s5x:=s59.trans sx;let h9x:=sx _ _ h9;clear h9
      revert h9x
      cases dN a <;> cases bM b <;> intro h9x <;> first | rfl | exact⟨p9,D,vs,rfl,h9x,s5x _ _ hD5,il5.mono s5x,s1.back nD⟩
def qR:cG P w base 5 T.gA (dY K (lI lg gD)):=by
 nomatch T.gA,["words","times","ends"]
 let⟨p,ws,rfl,hp,hl,sh,kk⟩:=h;let sl:=yt;refine{_,(ae (ax (ptr gF (c5 aq T.aP (aa (pv 0) af)) ah)
  (ai (aj aH))
  ak)
  (ae (ck 1 qN (bx (jW T) hr T.gy (aa (eF (pv 0) ah) (aa (aN (v:=.int (2)) (by rfl) T.rY {_,rfl}) (aa (aN (v:=.int (9)) (by rfl) T.A5 {_,rfl}) af)))))
  (ae (ck 2 qN (bx (cJ T) hr T.bY (aa (qL (ts:=["word"]) (ys:=[]) (js:=[]) (te:=(cy oB [] E0 (aF (aK 0) bK))) (bS (bD cB (pv 0) (bZ ah) cm)) (lE 0) aX (bx (Cj T) hr T.qH (aa (pv 0) af))) af)))
  (ae (ax (aY (bO (pv 2)))
  (ai (aj aH))
  ak)
  (ai (aj (bx (du T) hr T.bY (aa (bB (aa (bx (bu T) hr T.bN (aa (eF (pv 0) ah) af)) (aa (bx (bu T) hr T.bN (aa (eF (pv 0) ah) af)) (aa (pv 1) (aa (FG eV T.kF (aa (pv 2) af)) af))))) af)))))))),?_}
 ac_rfl;exists p,_,rfl,.inl hp,?_;rw[za];left;refine pz (λc=>?_) (λc=>?_)
 ·left
  refine kk _ _ (au.refl _) ?_;let hw:=zX c;let e:gD ws=none:=by
   unfold gD;split
   ·simp at hw;ext
   ·rfl
  unfold lI;rw[e];exact cM
 ·let hw:¬(⇑ws:Int)<3:=λz=>c (zd z)
  obtain⟨a,b,c',r,rfl⟩:∃a b i r,ws=a::b::i::r:=by
   match ws,hw with
   | [],h=>exact absurd (by simp) h
   | [_],h=>exact absurd (by simp) h
   | [_,_],h=>exact absurd (by simp) h
   | a::b::i::r,_=>exact{(a),b,i,r,rfl}
  let en:gD (a::b::c'::r)=(match kr (r.map qD) with | some l=>(match dN a,dN b,jj c' 2 9 with | some x,some y,some z=>some {(x),y,z,l} | _,_,_=>none) | none=>none):=rfl;unfold lI at kk;rw[en] at kk;let sh':∀z∈r,⇑z<=600:=λz hz=>sh z (by simp[hz]);let hl':⇑r<=1000000:=by simp at hl ⊢;ext
  exists p,_,2,_,rfl,rfl,hp,aQ (j:=2) rfl,?_;refine{_,_,_,rfl,sh c' (by simp),λH0 s0=>?_};exists p,_,rfl,s0.seq hp,?_;rw[show gm (List.map V.str (a::b::c'::r)) (some 3) none=r.map V.str from(cK _ 3).trans rfl];intros p1 H1 s1 h1;exists{_,aD.of h1},?_;refine dS (enc:=V.str) (ws:=r) (λz=>dO rM (qD z)) (λU=>∃v,U=[v]) () (aD.of h1) {(none),rfl} ?_ ?_
  ·rintro z U H4 R hz s4 ⟨_,rfl⟩ r
   change{sh' z hz,λv H5 s5 h5=>r _ _ _ s5 h5 {_,rfl}}
  ·intro D vs H4 s4 hD il
   refine{D,vs,rfl,aD.of hD,by rw[il.len,za];ext,λH5 s5=>?_};let il:=jZ il;rw[gM il];let s05:=((s0.trans s1).trans s4).trans s5;cases q:((r.map qD).map (dO rM)).any Dt.eI with
   | true=>
    left;refine kk _ _ s05 ?_;rw[fY Jw q];exact cM
   | false=>
    let⟨xs,e2,e3,e4⟩:=fX q;rw[e3] at il;rw[e2] at kk;let il5:=il.mono s5;let hD5:=s5 _ _ hD;exists p,_,0,_,rfl,rfl,s05.seq hp,aQ (j:=0) rfl,?_;refine{_,rfl,sh a (by simp),λH6 s6=>?_};exists p,_,1,_,rfl,rfl,(s05.trans s6).seq hp,aQ (j:=1) rfl,?_;refine{_,rfl,sh b (by simp),λH7 s7=>?_};left;refine{D,_,rfl,.inl {aD.of (s7 _ _ (s6 _ _ hD5)),?_}};intros p8 H8 s8 h8;exists by show 4<=sizeLine;ext,?_
    intros p9 H9 s9 h9;let s59:=((s6.trans s7).trans s8).trans s9;refine{p9,_,rfl,h9,(by show 4<=1000000;decide),λHx sx=>kk _ _ ((s05.trans s59).trans sx) ?_};rw[A1];refine Be (ds:=[dO .int (dN a),dO .int (dN b),dO .int (jj c' 2 9),.tup (xs.map rM)]) (sx _ _ h9) (aM (ra _) (aM (ra _) (aM (ra _) (dH (d7 (sx _ _ (s9 _ _ h8)) (il5.mono (s59.trans sx))))))) ?_ ?_
    ·cases dN a <;> cases dN b <;> cases jj c' 2 9 <;> first | (intro _;rfl) | (intro q;exact absurd q (by simp[dO,dL,Dt.eI]))
    ·cases dN a <;> cases dN b <;> cases jj c' 2 9 <;> first | (intro _;rfl) | (intro q;exact absurd q (by simp[dO,dL,Dt.eI]))
def Aj:cG P w base 3 T.kB (dY K (lI lH oJ)):=by
 nomatch T.kB,["words","stops","coda"]
 let⟨p,ws,rfl,hp,hl,sh,kk⟩:=h;let sl:=yt;refine{_,(ae (ax (ptr fB (c5 aq T.aP (aa (pv 0) af)) ah)
  (ai (aj aH))
  ak)
  (ae (ck 1 qN (bx (cJ T) hr T.bY (aa (qL (ts:=["word"]) (ys:=[]) (js:=[]) (te:=(cy gY [] E0 (aF (aK 0) bK))) (bS (bD cB (pv 0) cm (bZ ah))) (lE 0) aX (bx (bu T) hr T.bN (aa (pv 0) af))) af)))
  (ae (ck 2 qN (bx (bu T) hr T.bN (aa (eF (pv 0) ah) af)))
  (ae (ax (PW.pt (dh (aY (bO (pv 1))) (cu (PW.pt (d0 (aY (bO (pv 2))) (c7 (ptr fB (eF (pv 0) ah) ay)))))))
  (ai (aj aH))
  ak)
  (ai (aj (bB (aa (eF (pv 1) ah) (aa (eF (pv 1) ah) (aa (eF (pv 1) ah) (aa (pv 2) af))))))))))),?_}
 ac_rfl;exists p,_,rfl,.inl hp,?_;rw[za];left
 by_cases hw:⇑ws=4
 ·obtain⟨a,b,c,d,rfl⟩:∃a b c d,ws=[a,b,c,d]:=by
   match ws,hw with
   | [a,b,c,d],_=>exact{(a),b,c,d,rfl}
  let en:oJ [a,b,c,d]=(match dN a,dN b,dN c with | some x,some y,some z=>(match dN d with | some n=>some {x,y,z,some n} | none=>if d ="end" then some {(x),y,z,none} else none) | _,_,_=>none):=rfl;unfold lI at kk;rw[en] at kk;refine bG rfl ?_;exists p,_,rfl,hp,?_;rw[show gm (List.map V.str [a,b,c,d]) none (some 3)=[a,b,c].map V.str from(m5 _ 3).trans rfl];intros p1 H1 s1 h1;exists{_,aD.of h1},?_;refine dS (enc:=V.str) (ws:=[a,b,c]) (λz=>dO .int (dN z)) (λU=>∃v,U=[v]) (by show 3<=sizeLine;ext) (aD.of h1) {(none),rfl} ?_ ?_
  ·rintro z U H4 R hz s4 ⟨_,rfl⟩ r
   change{sh z (by simp at hz ⊢;rcases hz with h | h | h <;> simp[h]),λH5 s5=>r _ _ _ s5 (ra _) {_,rfl}}
  ·intro D vs H4 s4 hD il
   refine{D,vs,rfl,aD.of hD,by rw[il.len];show 3<=1000000;decide,λH5 s5=>?_};let il:=jZ il;rw[gM il];let s05:=(s1.trans s4).trans s5;cases q:(([a,b,c].map dN).map (dO Dt.int)).any Dt.eI with
   | true=>
    exists p,_,3,_,rfl,rfl,s05.seq hp,rfl,?_;refine{_,rfl,sh d (by simp),λH6 s6=>?_};left;refine kk _ _ (s05.trans s6) ?_;let q':([dN a,dN b,dN c].map (dO Dt.int)).any Dt.eI=true:=q;clear q en kk
    revert q'
    cases dN a <;> cases dN b <;> cases dN c <;> intro q' <;> first | exact cM | exact absurd q' (by simp[dO,Dt.eI])
   | false=>
    obtain⟨x,y,z,ea,eb,ec⟩:∃x y z,dN a=some x/\dN b=some y/\dN c=some z:=by
     let q':([dN a,dN b,dN c].map (dO Dt.int)).any Dt.eI=false:=q;clear q en kk il
     revert q'
     cases dN a <;> cases dN b <;> cases dN c <;> intro q' <;> first | exact⟨_,_,_,rfl,rfl,rfl⟩ | exact absurd q' (by simp[dO,Dt.eI])
    rw[ea,eb,ec] at kk;let il':ar H4 ([x,y,z].map Dt.int) vs:=by
     have:([a,b,c].map dN).map (dO Dt.int)=[x,y,z].map Dt.int:=by simp[ea,eb,ec,dO]
     rw[this] at il;exact il
    let ev:=gK il';subst ev;let hD5:=s5 _ _ hD;exists p,_,3,_,rfl,rfl,s05.seq hp,rfl,?_;refine{_,rfl,sh d (by simp),λH6 s6=>?_};let hD6:=s6 _ _ hD5;let s06:=s05.trans s6;let fin:∀(o:Option Int) (v:V),Is H6 (dO .int o) v->dN d=o->(o=none->d ="end")->∀p7 H7,au H6 H7->H7 p7=some (.tup [.int x,.int y,.int z,v])->Q (.ref p7) H7:=λo v iv eo hend p7 H7 s7 h7=>by
     refine kk _ _ (s06.trans s7) ?_;rw[eo];cases o with
     | none=>
      simp only[hend rfl,yF];exact d7 h7 (aM dI (aM dI (aM dI (dH (iv.mono s7)))))
     | some n=>exact d7 h7 (aM dI (aM dI (aM dI (dH (iv.mono s7)))))
    cases ed:dN d with
    | none=>
     exists p,_,3,_,rfl,rfl,s06.seq hp,rfl,?_;left
     by_cases he:d ="end"
     ·refine bG (by rw[he];rfl) ?_
      exists D,_,0,_,rfl,rfl,aD.of hD6,rfl,?_;exists D,_,1,_,rfl,rfl,aD.of hD6,rfl,?_;exists D,_,2,_,rfl,rfl,aD.of hD6,rfl,?_;left;refine{by show 4<=sizeLine;ext,laid ?_};exact fin none .aU cM ed λ_=>he
     ·refine bF (by rw[zc λz=>he (V.str.inj z)];rfl) ?_
      left;refine kk _ _ s06 ?_;rw[ed];simp only[yE he];exact cM
    | some n=>
     exists D,_,0,_,rfl,rfl,aD.of hD6,rfl,?_;exists D,_,1,_,rfl,rfl,aD.of hD6,rfl,?_;exists D,_,2,_,rfl,rfl,aD.of hD6,rfl,?_;left;refine{by show 4<=sizeLine;ext,laid ?_};exact fin (some n) (.int n) dI ed λz=>nomatch z
 ·refine bF (by rw[zc λz=>hw (by have:=V.int.inj z;ext)];rfl) ?_
  left;refine kk _ _ (au.refl _) ?_;let e:oJ ws=none:=by
   unfold oJ;split
   ·exact absurd rfl hw
   ·rfl
  unfold lI;rw[e];exact cM
structure Dk (P:wO) (w:wQ) (K:yr) {mg:Str->Option wM} (T:Txt K mg):Prop where
 Fv:KD P w K T.fT [("player",.ref T.eZ),("instrument",.ref T.cP),("staff",.ref T.fM),("bar",.ref T.jb),("upbeat",.ref T.eX),("holds",.ref T.gQ),("notes",.ref T.fN),("repeat",.ref T.eY),("jump",.ref T.gP)]
 Ng:KD P w K T.mG [("player",.ref T.eD),("instrument",.ref T.cE),("staff",.ref T.eW),("bar",.ref T.gR),("upbeat",.ref T.eB),("holds",.ref T.fP),("notes",.ref T.e9),("repeat",.ref T.eC),("jump",.ref T.fO)]
inductive Hs (K:yr) {mg:Str->Option wM} (T:Txt K mg):wV->Sp->Prop where
 | aZ:Hs K T T.eZ (dY K (lI .str (one bM)))
 | cO:Hs K T T.cP (dY K (lI l8 iV))
 | cz:Hs K T T.fM (dY K (lI ki lV))
 | bar:Hs K T T.jb (dY K (lI rN sZ))
 | aE:Hs K T T.eX (dY K (lI dL (one lr)))
 | holds:Hs K T T.gQ (dY K (lI oU mH))
 | av:Hs K T T.fN (dY K O1)
 | rep:Hs K T T.eY (dY K (lI lg gD))
 | cD:Hs K T T.gP (dY K (lI lH oJ))
noncomputable def qJ {K:yr} {mg:Str->Option wM} (T:Txt K mg):List (Str×V):=[("player",V.ref T.eZ),("instrument",.ref T.cP),("staff",.ref T.fM),("bar",.ref T.jb),("upbeat",.ref T.eX),("holds",.ref T.gQ),("notes",.ref T.fN),("repeat",.ref T.eY),("jump",.ref T.gP)]
def Il (K:yr) {mg:Str->Option wM} (T:Txt K mg) (x:Str):(nh (qJ T) x=none/\∀ws,gC (x::ws)=none)\/∃f D,nh (qJ T) x=some (.ref f)/\Hs K T f (dY K D)/\∀H0 H v ws,D H0 H v ws->eQ H0 H v (gC (x::ws)):=by
 by_cases e0:x ="player"
 ·subst e0
  refine .inr {_,_,rfl,.aZ,λH0 H v ws h=>?_};exact jH (g:=Told.aZ) h λx z=>by unfold Is at z;exact z
 by_cases e1:x ="instrument"
 ·subst e1
  refine .inr {_,_,rfl,.cO,λH0 H v ws h=>?_};exact jH (g:=λ(x:Str×(Int×Int)×(Int×Int))=>Told.cO x.1 x.2.1 x.2.2) h λx z=>(show Is H (l8 x) v from z)
 by_cases e2:x ="staff"
 ·subst e2
  refine .inr {_,_,rfl,.cz,λH0 H v ws h=>?_};exact jH (g:=λ(x:Str×List Str)=>Told.cz x.1 x.2) h λx z=>(show Is H (ki x) v from z)
 by_cases e3:x ="bar"
 ·subst e3
  refine .inr {_,_,rfl,.bar,λH0 H v ws h=>?_};exact jH (g:=Told.bar) h λx z=>z
 by_cases e4:x ="upbeat"
 ·subst e4
  refine .inr {_,_,rfl,.aE,λH0 H v ws h=>?_};exact jH (g:=Told.aE) h λx z=>z
 by_cases e5:x ="holds"
 ·subst e5
  refine .inr {_,_,rfl,.holds,λH0 H v ws h=>?_};exact jH (g:=λ(x:Str×Int×Str)=>Told.holds x.1 x.2.1 x.2.2) h λx z=>(show Is H (oU x) v from z)
 by_cases e6:x ="notes"
 ·subst e6
  refine .inr {_,_,rfl,.av,λH0 H v ws h=>?_};let e:gC ("notes":: ws)=(g9 ws).map λx=>Told.av x.1 x.2.1 x.2.2:=rfl;rw[e];unfold O1 at h;cases q:g9 ws with
  | none=>rw[q] at h;exact h
  | some y=>rw[q] at h;exact h
 by_cases e7:x ="repeat"
 ·subst e7
  refine .inr {_,_,rfl,.rep,λH0 H v ws h=>?_};exact jH (g:=Told.rep) h λx z=>z
 by_cases e8:x ="jump"
 ·subst e8
  refine .inr {_,_,rfl,.cD,λH0 H v ws h=>?_};exact jH (g:=Told.cD) h λx z=>z
 refine .inl {?_,λws=>?_}
 ·let f0:∀(k:Str) (v:V) (r:List (Str×V)),x≠k->nh ((k,v)::r) x=nh r x:=λk v r h=>by
   unfold nh;rw[yJ];rw[show decide ((k,v).1=x)=false from zc λz=>h z.symm]
  unfold qJ;rw[f0 _ _ _ e0,f0 _ _ _ e1,f0 _ _ _ e2,f0 _ _ _ e3,f0 _ _ _ e4,f0 _ _ _ e5,f0 _ _ _ e6,f0 _ _ _ e7,f0 _ _ _ e8];rfl
 ·unfold gC
  dsimp only;rw[yE e0,yE e1,yE e2,yE e3,yE e4,yE e5,yE e6,yE e7,yE e8]
def nA {K:yr} {mg:Str->Option wM} (T:Txt K mg):Sp:=λvs H Q _=>∃x:Str,vs=[.str x]/\Q (.bl (nh (qJ T) x).isSome) H
def nU (B:Dk P w K T):cG P w base 1 T.hV (nA T):=by
 nomatch T.hV,["word"]
 let⟨x,rfl,kk⟩:=h;refine{_,(ai (aj (nS (KA (pv 0) (aN (v:=.ref T.fT) (by rfl) T.vk rfl))))),?_};ac_rfl;exists T.fT,qJ T,x,rfl,B.Fv,rfl,?_;left;show Q (V.bl (false ^^ (nh (qJ T) x).isSome)) H;rw[Bool.false_xor];exact kk
def oH:cQ ["words","reader"] ["words"] (aC lM):=Nb
def Cg (B:Dk P w K T):cG P w base 7 T.qF (BH K):=by
 refine T.qF.F.JY oH λcdv A' outer s H vs Q E hr h=>?_
 ·let⟨p,x,ws,rfl,hp,hl,sh,kk⟩:=h
  let sl:=yt;let hTbV:∀f sp,Hs K T f sp->NF (fq uq P w K mg base ["words","reader"] "read_row" (aC lM) T.r9 cdv A' outer s H E).Bt uq 6 f sp:=by
   intro f sp h;cases h with
   | aZ=>exact{_,_,L2.bL.mono (qS T) ∅,T.gB.F.kp,T.gB.b}
   | cO=>exact{_,_,L2.bL.mono (lX T) ∅,T.dC.F.kp,T.dC.b}
   | cz=>exact{_,_,L2.bL.mono (tm T) ∅,T.iT.F.kp,T.iT.b}
   | bar=>exact{_,_,L2.bL.mono (Ck T) ∅,T.mF.F.kp,T.mF.b}
   | aE=>exact{_,_,L2.bL.mono (qQ T) ∅,T.gz.F.kp,T.gz.b}
   | holds=>exact{_,_,L2.bL.mono (Ak T) ∅,T.kC.F.kp,T.kC.b}
   | av=>exact{_,_,L2.bL.mono (tq T) ∅,T.iU.F.kp,T.iU.b}
   | rep=>exact{_,_,L2.bL.mono (qR T) ∅,T.gA.F.kp,T.gA.b}
   | cD=>exact{_,_,L2.bL.mono (Aj T) ∅,T.kB.F.kp,T.kB.b}
  refine{_,(ae (ax (cv (bf (bx (nU T B) hr T.hV (aa (eF (pv 0) ah) af))))
   (ai (aj aH))
   ak)
   (ae (ck 1 oH.nd (B9 (aN (v:=.ref T.fT) (by rfl) T.vk rfl) (eF (pv 0) ah) (λ_ _=>rfl)))
   (ai (aj (Ca (Hs K T) hTbV (hr.mono ∅) (pv 1) uK (aa (bD cB (pv 0) (bZ ah) cm) af)))))),?_}
  ac_rfl;exists p,_,0,_,rfl,rfl,hp,aQ (j:=0) rfl,?_;refine{x,rfl,?_};rcases Il K T x with⟨ev,er⟩ | ⟨f,D,ev,htb,hd⟩
  ·rw[ev]
   left;refine kk _ _ (au.refl _) ?_;rw[er];rfl
  ·rw[ev]
   exists p,_,0,_,rfl,rfl,hp,aQ (j:=0) rfl,?_;refine{T.fT,qJ T,x,_,rfl,B.Fv,rfl,ev,?_};exists f,_,rfl,htb,?_;exists p,_,rfl,hp,?_;rw[show gm (List.map V.str (x::ws)) (some 1) none=ws.map V.str from(cK _ 1).trans rfl];intros p1 H1 s1 h1;refine{p1,ws,rfl,aD.of h1,(),λy hy=>sh y (by simp[hy]),λv H2 s2 h2=>kk _ _ (s1.trans s2) ((hd _ _ _ _ h2).back s1)}
def jq:cG P w base 1 T.fE (oY K):=by
 nomatch T.fE,["repeats","bar","repeat"]
 let⟨p,rs,b,rfl,⟨vs,hp,il⟩,kk⟩:=h;unfold kz at kk;refine{_,(ae (hJ yG rfl (bS (pv 0)) (FA 2 qN)
  (ai (ax (PW.pt (d0 (ptr mM (b4 (pv 2) ah) (pv 1)) (c7 (ptr mM (pv 1) (b4 (pv 2) ah)))))
   (ai (aj (pv 2)))
   ak)))
  (ai (aj aH))),?_}
 ac_rfl;exists{_,hp},?_;refine kg (K:=K) (a:=p) (xs:=vs) (λi U H'=>H'=H/\(rs.take i).find? (λr=>decide (r.first<=b)&&decide (b<=r.last))=none/\∃v,U=[some (.ref p),some (.int b),v]) {(rfl),rfl,none,rfl} (λi U H' _ h=>by rw[h.1];exact hp) ?_ ?_
 ·intro i x U H' hx hh
  refine iM λN kN0 kR0 _ _=>?_;let⟨rfl,hn,v,rfl⟩:=hh;let⟨r,hr',hi⟩:=cX il hx;let⟨a,e,rfl,ha,he⟩:=iR hi;left
  by_cases c1:r.first<=b
  ·refine bF (zd c1) ?_
   left
   by_cases c2:b<=r.last
   ·refine bF (zd c2) ?_
    left;refine kk _ ?_;rw[FR hr' hn (by rw[zd c1,zd c2];rfl)];exact hi
   ·refine bG (zc c2) ?_
    change{vd hr' hn (by rw[zc c2,wa]),_,rfl}
  ·refine bG (zc c1) ?_
   change{vd hr' hn (by rw[zc c1,yK]),_,rfl}
 ·rintro U H' ⟨rfl,hn,v,rfl⟩
  rw[aI il,zK] at hn;left;refine kk _ ?_;rw[hn];exact cM
def Am:cG P w base 2 T.nW (vQ K):=by
 nomatch T.nW,["repeats","bar","repeat"]
 let⟨p,rs,b,rfl,hp,kk⟩:=h;unfold iw at kk;refine{_,(ae (ck 2 qN (bx (jq T) hr T.fE (aa (pv 0) (aa (pv 1) af))))
  (ai (aj (LL (nS (bO (pv 2))) (hU (bT bE (pv 1) (b4 (pv 2) ah) (dj _))))))),?_}
 ac_rfl;exists p,rs,b,rfl,hp,λv iv=>?_;cases q:kz rs b with
 | none=>
  rw[q] at iv kk;unfold dO Is at iv;subst iv;change kk
 | some r=>
  rw[q] at iv kk;let⟨a,e,rfl,ha,he⟩:=iR iv;left;let e1:decide (V.int b=V.int r.last)=decide (b=r.last):=by simp
  show Q (.bl (decide (V.int b=V.int r.last))) H;rw[e1];exact kk
def mQ:cG P w base 2 T.kI (vR K):=by
 nomatch T.kI,["repeats","bar","repeat"]
 let⟨p,rs,b,rfl,hp,kk⟩:=h;unfold dA at kk;refine{_,(ae (ck 2 qN (bx (jq T) hr T.fE (aa (pv 0) (aa (pv 1) af))))
  (ai (aj (LL (nS (bO (pv 2))) (hU (bT bE (pv 1) (b4 (pv 2) ah) (dj _))))))),?_}
 ac_rfl;exists p,rs,b,rfl,hp,λv iv=>?_;cases q:kz rs b with
 | none=>
  rw[q] at iv kk;unfold dO Is at iv;subst iv;change kk
 | some r=>
  rw[q] at iv kk;let⟨a,e,rfl,ha,he⟩:=iR iv;left;let e1:decide (V.int b=V.int r.first)=decide (b=r.first):=by simp
  show Q (.bl (decide (V.int b=V.int r.first))) H;rw[e1];exact kk
def JC (us:List V) (h:us≠[]):¬(HT.c0 ⇑us 0 (some 1)=0/\HT.c0 ⇑us ⇑us none=⇑us):=by
 rintro⟨h1,_⟩;let hp:0<⇑us:=yh.mpr h;let e:HT.c0 ⇑us 0 (some ((1:Nat):Int))=min 1 ⇑us:=by unfold HT.c0;simp
 let e':HT.c0 ⇑us 0 (some (1:Int))=min 1 ⇑us:=e;rw[e'] at h1;ext
def Gq {K:yr} {H:Hp} {e:wV} {us:List V} {Q:VK} (hu:H e=some (.tup us)) (k:∀q H1,au H H1->H1 q=some (.tup (us.drop 1))->Q (.ref q) H1):LF K (.ref e) (some 1) none H Q:=by
 by_cases h:us=[]
 ·subst h
  exact .inr {e,[],rfl,cx.of hu,{(rfl),rfl},k e H (au.refl H) hu}
 ·refine .inl {e,us,rfl,cx.of hu,JC us h,?_}
  rw[show gm us (some 1) none=us.drop 1 from cK us 1];exact laid k
def Ej:cG P w base 1 T.AI DQ:=by
 nomatch T.AI,["repeat","ends","behind"]
 let⟨v,r,rfl,iv,hl,kk⟩:=h;let sl:=yt;let⟨a,e,rfl,ha,he⟩:=iR iv;unfold Is at he;let⟨e',us,ee,hu,ilu⟩:=he;cases ee;refine{_,(ae (ck 1 qN (b4 (pv 0) ah))
  (ae (ck 2 qN (az cN (qL (ts:=["end"]) (ys:=[]) (js:=[]) (te:=(eG (nO K) (aK 0) (tC (.int (0))))) (lW (bD Kl (pv 1) (bZ ah) cm)) (lE 0) aX (b4 (pv 0) ah)) (bg (aa (az cL (b4 (pv 0) ah) ah) af))))
  (ai (aj (qL (ts:=["end","after"]) (ys:=[]) (js:=[]) (g:=(GS K 2 (ke (bH 0) (ke (bH 1) GU)))) (te:=(Gm (aF (eG (nO K) (aK 0) (tC (.int (0)))) (aF (eG (Bs λi j=>.int (i-j)) (aK 1) (tC (.int (1)))) (aF (eG (nO K) (aK 0) (tC (.int (1)))) bK))))) (IB (by rfl) T.LM (aa (pv 1) (aa (pv 2) af))) (jU (n:=2) rfl (bQ (lE 0) (bQ (lE 1) gE))) aX (bB (aa (b4 (pv 0) ah) (aa (az Eg (pv 1) ah) (aa (b4 (pv 0) ah) af))))))))),?_}
 ac_rfl;left;let main:∀(q:wV) (H1:Hp),au H H1->H1 q=some (.tup (us.drop 1))->∀(R:VK),(∀D H2,au H1 H2->H2 D=some (.lst ((r.ends.drop 1).map λx=>V.int x.1))->R (.ref D) H2)->
   dE [none] (bH 0) sC (eG (nO K) (aK 0) (tC (.int 0))) R (LX K q) H1:=by
  intro q H1 s1 h1 R hR;let il1:ar H ((r.ends.drop 1).map rM) (us.drop 1):=by
   cases re:r.ends with
   | nil=>
    rw[re] at ilu;unfold ar at ilu;subst ilu;unfold ar;rfl
   | cons x xs=>
    rw[re,zf] at ilu;unfold ar at ilu;let⟨u,ur,rfl,_,h2⟩:=ilu;exact h2
  let⟨ps,f1,f2,f3⟩:=kL il1;let pl:⇑ps<=1000000:=by
   have:⇑ps=⇑(r.ends.drop 1):=by rw[<-f1,za]
   rw[this,xj];ext
  refine gq (enc:=λz:Sc.End×V=>z.2) (ws:=ps) (λz=>.int z.1.1) (λU=>∃v,U=[v]) () (by rw[f2];exact h1) {(none),rfl} ?_ ?_
  ·rintro z U H6 R' hz s6 ⟨_,rfl⟩ r'
   let⟨a6,q6,ev,h6,h7⟩:=AJ (f3 z hz);rw[ev];let h66:=s6 _ _ (s1 _ _ h6);change r' _ _ _ (au.refl _) dI {_,rfl}
  ·intro D vs H6 s6 hD il
   let e5:ps.map (λz=>Dt.int z.1.1)=((r.ends.drop 1).map (·.1)).map Dt.int:=by rw[<-f1,zw,zw];rfl
   rw[e5] at il;rw[gK il,zw] at hD;exact hR D H6 s6 hD
 refine Gq hu λq H1 s1 h1=>{q,rfl,{_,cx.of h1},main q H1 s1 h1 _ λD H2 s2 h2=>?_}
 let ha2:=s2 _ _ (s1 _ _ ha);exists by show 1<=sizeLine;ext,?_
 intros p3 H3 s3 h3;refine{D,p3,_,_,rfl,rfl,aD.of (s3 _ _ h2),aD.of h3,by rw[za,xj];show _+1<=_;ext,?_};intros p4 H4 s4 h4;let s04:=(s1.trans s2).trans (s3.trans s4);let hu4:=s04 _ _ hu;let eb:(List.map (λx=>V.int x.1) (r.ends.drop 1)++[V.int (r.last+1)])=((r.ends.drop 1).map (·.1)++[r.last+1]).map V.int:=by rw[zg,zw];rfl
 rw[eb] at h4;left;let ilu4:=ilu.mono s04;let ul:=aI ilu;refine{true,false,e,p4,us,_,rfl,cx.of hu4,aD.of h4,?_};generalize hbs:(r.ends.drop 1).map (·.1)++[r.last+1]=bs at h4;let zl:⇑(r.ends.zip bs)=min ⇑r.ends ⇑bs:=xi;refine ma (ws:=r.ends.zip bs) (λz x H'=>∃p u,x=.ref p/\H' p=some (.tup [u,.int z.2])/\Is H' (rM z.1) u) (λz=>G7 (z.1.1,z.2-1,z.1.2)) (λU=>∃u v,U=[u,v]) () {(none),none,rfl} ?_ ?_ ?_ ?_ ?_
 ·intro i H5 hi s5
  let i1:i<⇑us:=()
  let i2:i<⇑(bs.map V.int):=by rw[za];ext
  exact{us,bs.map V.int,us[i],(bs.map V.int)[i],cx.of (s5 _ _ hu4),aD.of (s5 _ _ h4),zb i1,zb i2}
 ·intro H5 s5
  refine{us,bs.map V.int,cx.of (s5 _ _ hu4),aD.of (s5 _ _ h4),?_};rw[za];rcases Nat.le_total ⇑r.ends ⇑bs with h | h
  ·exact Or.inl ()
  ·right;ext
 ·rintro i x H5 H6 hi s5 ⟨p,u,v,hp,rfl,rfl,hu',hv'⟩
  let i1:i<⇑r.ends:=()
  let i2:i<⇑bs:=()
  let gu:=hu' us (cx.of (s5 _ _ hu4));let gv:=hv' (bs.map V.int) (aD.of (s5 _ _ h4));rw[zH,zb i2] at gv;cases gv;let⟨x0,hx0,ix0⟩:=cX (ilu4.mono s5) gu;rw[zb i1] at hx0;cases hx0;refine{cj hp,p,u,rfl,?_,?_}
  ·rw[aA,List.getElem_zip]
  ·rw[List.getElem_zip];exact ix0.mono (cj hp)
 ·rintro z x U H5 R hz s5 ⟨p,u,rfl,hp,iu⟩ ⟨_,_,rfl⟩ rr
  let⟨a6,q6,rfl,h6,h7⟩:=AJ iu;refine{p,_,rfl,cx.of hp,rfl,?_};refine{_,_,rfl,_,_,rfl,rfl,?_};left;refine{qq,laid λp7 H7 s7 h7'=>rr _ _ _ s7 ?_ {_,_,rfl}};exact d7 h7' (aM dI (aM dI (dH (d7 (s7 _ _ h7) AB))))
 ·intro D5 vs5 H5 s5 hD5 il5
  refine kk _ _ _ (s04.trans s5) hD5 ?_;let ee:(hW r).map G7=(r.ends.zip bs).map λz=>G7 (z.1.1,z.2-1,z.1.2):=by
   unfold hW;rw[hbs,zw];rfl
  rw[ee];exact il5
def Me {H:Hp} {e:Int×Int×List Int} {v:V} (h:Is H (G7 e) v):∃a q,v=.ref a/\H a=some (.tup [.int e.1,.int e.2.1,.ref q])/\H q=some (.tup (e.2.2.map V.int)):=by
 unfold G7 Is at h;let⟨a,vs,rfl,ha,hl⟩:=h;unfold ar at hl;let⟨v1,r1,rfl,h1,hl⟩:=hl;unfold ar at hl;let⟨v2,r2,rfl,h2,hl⟩:=hl;unfold ar at hl;let⟨v3,r3,rfl,h3,hl⟩:=hl;unfold ar at hl;subst hl;unfold Is at h1 h2;subst h1 h2;unfold FW Is at h3;let⟨q,us,rfl,hq,hle⟩:=h3;rw[gK hle] at hq;exact{(a),q,rfl,ha,hq}
noncomputable def rB (r:Rep) (b:Int) (e:Int×Int×List Int):Bool:=decide (e.1<=b)&&decide (b<=e.2.1)&&!decide (r.times∈e.2.2)
def GQ (rs:List Rep) (b:Int):lZ rs b=rs.all λr=>(hW r).all λe=>!rB r b e:=rfl
theorem vc:∀ns:List Int,(ns.map V.int).all kh=true
 | []=>rfl
 | n::ns=>by rw[zf,wq,vc ns];rfl
def jt:cG P w base 2 T.fJ (o7 K):=by
 nomatch T.fJ,["repeats","bar","repeat","end"]
 let⟨p,rs,b,rfl,⟨vs,hp,il⟩,hl,kk⟩:=h;rw[GQ] at kk;refine{_,(ae (hJ yG rfl (bS (pv 0)) (FA 2 qN)
  (ai (hJ yG rfl (bS (bx (Ej T) hr T.AI (aa (pv 2) af))) (FA 3 qN)
   (ai (ax (PW.pt (d0 (ptr mM (b4 (pv 3) ah) (pv 1)) (d0 (ptr mM (pv 1) (b4 (pv 3) ah)) (c7 (kD d4 (b4 (pv 2) ah) (b4 (pv 3) ah) (by with_unfolding_all rfl))))))
    (ai (aj fe))
    ak)))))
  (ai (aj fe))),?_}
 ac_rfl;exists{_,hp},?_;refine kg (K:=K) (a:=p) (xs:=vs) (λi U H'=>au H H'/\(rs.take i).all (λr=>(hW r).all λe=>!rB r b e)=true/\∃v u,U=[some (.ref p),some (.int b),v,u]) {au.refl H,rfl,none,none,rfl} (λi U H' _ h=>h.1.seq hp) ?_ ?_
 ·intro i x U H' hx hh
  refine iM λN kN0 kR0 _ _=>?_;let⟨s1,hn,v,u,rfl⟩:=hh;let⟨r,hr',hi⟩:=cX il hx;let hm:=zy hr';exists _,r,rfl,hi.mono s1,hl r hm,λD us H2 s2 hD ilD=>?_;refine{D,rfl,{_,aD.of hD},?_};let⟨a,e,rfl,ha,he⟩:=iR (hi.mono (s1.trans s2));refine kg (K:=K) (a:=D) (xs:=us) (λj U H'=>H'=H2/\((hW r).take j).all (λe=>!rB r b e)=true/\∃u,U=[some (.ref p),some (.int b),some (.ref a),u]) {rfl,rfl,_,rfl} (λj U H' _ h=>by rw[h.1];exact aD.of hD) ?_ ?_
  ·intro j y U H3 hy hh
   refine iM λN kN1 kR1 _ _=>?_;let⟨rfl,hnj,u',rfl⟩:=hh;let⟨t,ht,it⟩:=cX ilD hy;let⟨a6,q6,rfl,h6,h7⟩:=Me it;let good:rB r b t=false->((hW r).take (j+1)).all (λe=>!rB r b e)=true:=λz=>by
    rw[gw ht,List.all_append,hnj,yM];simp[z]
   left
   by_cases c1:t.1<=b
   ·refine bF (zd c1) ?_
    left
    by_cases c2:b<=t.2.1
    ·refine bF (zd c2) ?_
     exists q6,t.2.2.map V.int,rfl,.inr (cx.of h7),rfl,vc _,?_;show∃k,V.bl (!Hq (.int r.times) (t.2.2.map V.int))=.bl k/\_;rw[rf]
     by_cases c3:r.times∈t.2.2
     ·rw[zd c3]
      change{good (by unfold rB;rw[zd c3];simp),_,rfl}
     ·rw[zc c3]
      left;let z:=kk H3 (s1.trans s2);let e0:(rs.all λr=>(hW r).all λe=>!rB r b e)=false:=by
       rw[List.all_eq_false];refine{r,hm,?_};have:((hW r).all λe=>!rB r b e)=false:=by
        rw[List.all_eq_false];exact{t,zy ht,by unfold rB;simp[c1,c2,c3]}
       rw[this];decide
      rw[e0] at z;exact z
    ·refine bG (zc c2) ?_
     change{good (by unfold rB;rw[zc c2];simp),_,rfl}
   ·refine bG (zc c1) ?_
    change{good (by unfold rB;rw[zc c1];simp),_,rfl}
  ·rintro U H3 ⟨rfl,hnj,u',rfl⟩
   rw[aI ilD,zK] at hnj;left;refine{s1.trans s2,?_,_,_,rfl};rw[gw hr',List.all_append,hn,yM];simp[hnj]
 ·rintro U H' ⟨s1,hn,v,u,rfl⟩
  rw[aI il,zK] at hn;left;let z:=kk H' s1;rw[hn] at z;exact z
inductive vT (K:yr) (vs:List V) (H:Hp) (Q:VK) (E:XK):Prop
 | mk (p:wV) (rs:List Rep) (a c:Int) (_:vs=[.ref p,.int a,.int c]) (_:uj K H p rs) (_:(∀r∈rs,⇑r.ends<=1000000)) (_:∀H',au H H'->Q (.bl (decide (a<c)&&dA rs c&&lZ rs c)) H')
inductive vS (K:yr) (vs:List V) (H:Hp) (Q:VK) (E:XK):Prop
 | mk (p:wV) (rs:List Rep) (v:V) (j:Jump) (_:vs=[.ref p,v]) (_:uj K H p rs) (_:(∀r∈rs,⇑r.ends<=1000000)) (_:Is H (lH j) v) (_:∀H',au H H'->Q (.bl (mU rs j)) H')
def pO {H:Hp} {j:Jump} {v:V} (h:Is H (lH j) v):∃a,v=.ref a/\H a=some (.tup [.int j.CG,.int j.Et,.int j.dG,ov j.mf]):=by
 unfold lH Is at h;let⟨a,vs,rfl,ha,hl⟩:=h;unfold ar at hl;let⟨v1,r1,rfl,h1,hl⟩:=hl;unfold ar at hl;let⟨v2,r2,rfl,h2,hl⟩:=hl;unfold ar at hl;let⟨v3,r3,rfl,h3,hl⟩:=hl;unfold ar at hl;let⟨v4,r4,rfl,h4,hl⟩:=hl;unfold ar at hl;subst hl;unfold Is at h1 h2 h3;subst h1 h2 h3;refine{a,rfl,?_};cases q:j.mf with
 | none=>rw[q] at h4;unfold dO Is at h4;subst h4;exact ha
 | some n=>rw[q] at h4;unfold dO Is at h4;subst h4;exact ha
def Ao:cG P w base 3 T.om (vT K):=by
 nomatch T.om,["repeats","at","coda"]
 let⟨p,rs,a,c,rfl,hp,hl,kk⟩:=h;refine{_,(ai (aj (gd (bT gF (pv 1) (pv 2) (dj _)) (gd (bx (mQ T) hr T.kI (aa (pv 0) (aa (pv 2) af))) (hU (bx (jt T) hr T.fJ (aa (pv 0) (aa (pv 2) af)))))))),?_};ac_rfl;left
 by_cases c1:a<c
 ·rw[zd c1,yM] at kk
  refine bF (zd c1) ?_;exists p,rs,c,rfl,hp,?_;cases q:dA rs c with
  | true=>
   rw[q,yM] at kk;change{(p),rs,c,rfl,hp,hl,kk}
  | false=>
   rw[q,yK] at kk;change kk _ (au.refl _)
 ·rw[zc c1,yK,yK] at kk
  refine bG (zc c1) ?_;change kk _ (au.refl _)
def An:cG P w base 4 T.og (vS K):=by
 nomatch T.og,["repeats","jump","at","to","until","coda"]
 let⟨p,rs,v,j,rfl,hp,hl,iv,kk⟩:=h;let⟨a,rfl,ha⟩:=pO iv;unfold mU at kk;refine{_,(ae (ck 2 qN (b4 (pv 1) ah))
  (ae (ck 3 qN (b4 (pv 1) ah))
  (ae (ck 4 qN (b4 (pv 1) ah))
  (ae (ck 5 qN (b4 (pv 1) ah))
  (ae (ax (PW.pt (dh (ptr gF (pv 4) (pv 3)) (cu (ptr gF (pv 2) (pv 4)))))
  (ai (aj fe))
  ak)
  (ae (ax (PW.pt (d0 (aY (iX (pv 5))) (c7 (cv (bf (bx (Ao T) hr T.om (aa (pv 0) (aa (pv 2) (aa (pv 5) af)))))))))
  (ai (aj fe))
  ak)
  (ai (aj (gd (bx (Am T) hr T.nW (aa (pv 0) (aa (pv 2) af))) (gd (bx (mQ T) hr T.kI (aa (pv 0) (aa (pv 3) af))) (hU (bx (jt T) hr T.fJ (aa (pv 0) (aa (pv 4) af)))))))))))))),?_}
 ac_rfl;left
 by_cases c1:j.dG<j.Et
 ·refine bF (zd c1) ?_
  simp only[yF c1] at kk;change kk _ (au.refl _)
 ·refine bG (zc c1) ?_
  simp only[yE c1] at kk;left
  by_cases c2:j.CG<j.dG
  ·refine bF (zd c2) ?_
   simp only[yF c2] at kk;change kk _ (au.refl _)
  ·refine bG (zc c2) ?_
   simp only[yE c2] at kk;left;cases q:j.mf with
   | none=>
    rw[q] at kk;exists p,rs,_,rfl,hp,?_;cases q1:iw rs j.CG with
    | false=>
     rw[q1] at kk;change kk _ (au.refl _)
    | true=>
     rw[q1] at kk;exists p,rs,_,rfl,hp,?_;cases q2:dA rs j.Et with
     | false=>
      rw[q2] at kk;change kk _ (au.refl _)
     | true=>
      rw[q2] at kk;change{p,rs,_,rfl,hp,hl,kk}
   | some n=>
    rw[q] at kk;exists p,rs,_,_,rfl,hp,hl,λH1 s1=>?_;cases q0:(decide (j.CG<n)&&dA rs n&&lZ rs n) with
    | false=>
     simp only[q0] at kk;change kk _ s1
    | true=>
     simp only[q0,yM] at kk;exists p,rs,_,rfl,hp.mono s1,?_;cases q1:iw rs j.CG with
     | false=>
      rw[q1] at kk;change kk _ s1
     | true=>
      rw[q1] at kk;exists p,rs,_,rfl,hp.mono s1,?_;cases q2:dA rs j.Et with
      | false=>
       rw[q2] at kk;change kk _ s1
      | true=>
       rw[q2] at kk;change{p,rs,_,rfl,hp.mono s1,hl,λH2 s2=>kk _ (s1.trans s2)}
def uE {l ns:List Int} (h1:ns.Perm l) (h2:ns.Pairwise (·<=·)):ns=sortI l:=by
 unfold sortI;refine List.Perm.eq_of_pairwise (le:=λa b:Int=>a<=b) (λa b _ _ x y=>Int.le_antisymm x y) h2 ?_ (h1.trans (List.mergeSort_perm _ _).symm);have:=List.pairwise_mergeSort (le:=λa b:Int=>decide (a<=b)) (λa b c x y=>by simp at x y ⊢;ext) (λa b=>by simp;ext) l;exact this.imp λh=>by simpa using h
noncomputable def Gi:List Sc.End->Nat
 | []=>0
 | e::r=>⇑e.2+Gi r
def Mf {es:List Sc.End} {e:Sc.End} (h:e∈es):⇑e.2<=Gi es:=by
 induction es with
 | nil=>cases h
 | cons x r ih=>
  rcases zA.mp h with rfl | h
  ·unfold Gi;ext
  ·have:=ih h;unfold Gi;ext
def HG {a b:List Int}:(decide (a.map V.int=b.map V.int))=decide (a=b):=by
 by_cases h:a=b
 ·subst h;simp
 ·rw[zc h,zc]
  intro z;have:∀{a b:List Int},a.map V.int=b.map V.int->a=b:=by
   intro a
   induction a with
   | nil=>intro b z;cases b with | nil=>rfl | cons _ _=>cases z
   | cons x r ih=>intro b z;cases b with | nil=>cases z | cons y s=>simp at z;rw[z.1,ih (by simpa using z.2)]
  exact h (this z)
theorem mJ:∀ns:List Int,(ns.map V.int).all LJ=true
 | []=>rfl
 | n::ns=>by rw[zf,wq,mJ ns];rfl
def CT {e:Sc.End} {r:List Sc.End} {a:Int} {ps:List Int} (h1:¬e.1<=a) (h2:e.2=sortI e.2):gj (e::r) a ps=gj r e.1 (ps++e.2):=by
 show(if e.1<=a then none else if e.2≠sortI e.2 then none else gj r e.1 (ps++e.2))=_;rw[yE h1,yE (λz=>z h2)]
def vg {e:Sc.End} {r:List Sc.End} {a:Int} {ps:List Int} (h:e.1<=a\/e.2≠sortI e.2):gj (e::r) a ps=none:=by
 show(if e.1<=a then none else if e.2≠sortI e.2 then none else gj r e.1 (ps++e.2))=_;rcases h with h | h
 ·rw[yF h]
 ·rw[yF h];split <;> rfl
def K8 {α:Type} {l:List α} {i:Nat} {x:α} (h:l[i]?=some x):l.drop i=x::l.drop (i+1):=by
 let⟨hi,rfl⟩:=zt.mp h;exact List.drop_eq_getElem_cons hi
inductive oE (vs:List V) (H:Hp) (Q:VK) (E:XK):Prop
 | mk (v:V) (r:Rep) (_:vs=[v]) (_:Is H (lg r) v) (_:Gi r.ends<64) (_:-1000000<=r.times) (_:r.times<=1000000) (_:∀H',au H H'->Q (.bl (gN r)) H')
def Cn:cG P w base 1 T.rA oE:=by
 nomatch T.rA,["repeat","ends","ahead","passes","end"]
 let⟨v,r,rfl,iv,ht,t0,t1,kk⟩:=h;let sl:=yt;let⟨a,e,rfl,ha,he⟩:=iR iv;unfold Is at he;let⟨e',us,ee,hu,ilu⟩:=he;cases ee;let ul:=aI ilu;refine{_,(ae (ck 1 qN (b4 (pv 0) ah))
  (ae (ax (ptr bE (c5 aq T.aP (aa (pv 1) af)) ah)
  (ai (aj fe))
  ak)
  (ae (ck 2 qN (az Eg (b4 (pv 0) ah) ah))
  (ae (ck 3 qN (bg af))
  (ae (hJ yG rfl (lW (pv 1)) (FA 4 qN)
  (ae (ax (PW.pt (dh (ptr mM (b4 (pv 4) ah) (pv 2)) (cu (ptr (Eh hr.units) (FG A2 T.Av (aa (b4 (pv 4) ah) af)) (c5 m7 T.Cv (aa (b4 (pv 4) ah) af))))))
   (ai (aj fe))
   ak)
   (ae (ck 2 qN (b4 (pv 4) ah))
   (ai (eT (cV yu PySem.F.slot_list_extend PySem.F.type_list_extend Em (pv 3) (aa (b4 (pv 4) ah) af)))))))
  (ai (aj (gd (bT mM (pv 2) (b4 (pv 0) ah) (dj _)) (hU (bT (IM hr.units) (c5 m7 T.Cv (aa (pv 3) af)) (IF rfl (by rfl) T.Av (by rfl) T.pN (aa ah (aa (az cL (b4 (pv 0) ah) ah) af))) (dj _))))))))))),?_}
 ac_rfl;exists e,_,rfl,.inr (cx.of hu),?_;rw[ul];left
 by_cases h0:⇑r.ends=0
 ·refine bF (by rw[h0];rfl) ?_
  left;let e0:gN r=true:=by
   unfold gN;rw[yi.mp h0]
  rw[e0] at kk;exact kk _ (au.refl _)
 ·refine bG (zc λz=>h0 (by have:=V.int.inj z;ext)) ?_
  let ef:gN r=(match gj r.ends (r.first-1) [] with | none=>false | some (a,ps)=>decide (a<=r.last)&&decide (sortI ps=Mw 1 (r.times+1-1).toNat)):=by
   unfold gN;cases q:r.ends with
   | nil=>rw[q] at h0;exact absurd rfl h0
   | cons x xs=>rfl
  rw[ef] at kk;exists by show 0<=sizeLine;ext,?_
  intro pp hn;generalize hG:upd _ pp _=H1;let s1:=au.Aq hG hn;let h1:=Bb hG;clear hG;exists{_,cx.of (s1 _ _ hu)},?_;refine K1 (K:=K) (a:=e) (xs:=us) (λi U H'=>au H H'/\∃(z:Int) (ps:List Int) (u:Option V),U=[some (.ref a),some (.ref e),some (.int z),some (.ref pp),u]/\H' pp=some (.lst (ps.map V.int))/\⇑ps+Gi (r.ends.drop i)=Gi r.ends/\gj r.ends (r.first-1) []=gj (r.ends.drop i) z ps) {s1,_,[],none,rfl,h1,by simp,rfl} (λi U H' _ h=>cx.of (h.1 _ _ hu)) ?_ ?_
  ·intro i x U H2 hx hh
   refine iM λN kN0 kR0 _ _=>?_;let⟨s2,z,ps,u,rfl,h2,hc,hgo⟩:=hh;let⟨en,hen,ien⟩:=cX ilu hx;let⟨a6,q6,rfl,h6,h7⟩:=AJ (ien.mono s2);let hle:=Mf (zy hen);rw[K8 hen] at hgo hc;rw[show Gi (en::List.drop (i+1) r.ends)=⇑en.2+Gi (List.drop (i+1) r.ends) from rfl] at hc;left
   by_cases c1:en.1<=z
   ·refine bF (zd c1) ?_
    rw[hgo,vg (.inl c1)] at kk;change kk _ s2
   ·refine bG (zc c1) ?_
    exists q6,_,rfl,.inr (cx.of h7),?_;intros p8 H8 s8 h8;let h68:=s8 _ _ h6;let h78:=s8 _ _ h7;exists q6,en.2,rfl,.inr (cx.of h78),(),λns np ns'=>?_;intros p9 H9 s9 h9;let h69:=s9 _ _ h68;let h79:=s9 _ _ h78;let h29:=s9 _ _ (s8 _ _ h2);rw[uE np ns'] at h9;refine{p8,p9,_,_,rfl,rfl,.inl {aD.of (s9 _ _ h8),aD.of h9},.inr (.inr {mJ _,mJ _}),?_};rw[HG]
    by_cases c2:en.2=sortI en.2
    ·rw[zd c2]
     rw[CT c1 c2] at hgo;exists .inl {rfl,_,aD.of h29},?_;left;refine .inr {pp,q6,_,_,rfl,rfl,h29,h79,by rw[za,za];ext,?_};left;let s29:=(s2.trans s8).trans s9;refine{λb o hb=>?_,en.1,ps++en.2,_,rfl,by rw[aA,zg],by rw[ze];ext,hgo};let ne:b≠pp:=λz=>by rw[z,hn] at hb;cases hb
     rw[ao ne];exact s29 b o hb
    ·rw[zc c2]
     rw[hgo,vg (.inr c2)] at kk;change kk _ ((s2.trans s8).trans s9)
  ·rintro U H2 ⟨s2,z,ps,u,rfl,h2,hc,hgo⟩
   rw[ul,List.drop_length] at hgo hc;rw[hgo] at kk;let ha2:=s2 _ _ ha;unfold gj at kk;simp only at kk;rw[show Gi []=0 from rfl] at hc;left
   by_cases c1:z<=r.last
   ·rw[zd c1,yM] at kk
    refine bF (zd c1) ?_;exists pp,ps,rfl,.inl (aD.of h2),(),λns np ns'=>?_;intros p9 H9 s9 h9;rw[uE np ns'] at h9;let ha9:=s9 _ _ ha2;exists 1,r.times+1,rfl,{∅,(by decide),(),()},(),?_;intros p10 H10 s10 h10;refine{p9,p10,_,_,rfl,rfl,.inl {aD.of (s10 _ _ h9),aD.of h10},.inr (.inr {mJ _,mJ _}),?_};rw[HG];exact kk _ ((s2.trans s9).trans s10)
   ·rw[zc c1,yK] at kk
    refine bG (zc c1) ?_;exact kk _ s2
def F3 {xs:List V} {x:V} (h:xs[⇑xs-1]?=some x):Bu xs (-1)=some x:=by
 let hp:0<⇑xs:=by
  have:=(zt.mp h).1;ext
 let ne:xs≠[]:=yh.mp hp;let e:=xE ne;let e2:xs.getLast ne=x:=by
  have:=(zt.mp h).2;rw[List.getLast_eq_getElem];exact this
 rw[<-e,e2];exact L2.Di _ _
inductive qm (K:yr) (vs:List V) (H:Hp) (Q:VK) (E:XK):Prop
 | mk (p:wV) (rs:List Rep) (v:V) (r:Rep) (_:vs=[.ref p,v]) (_:uj K H p rs) (_:Is H (lg r) v) (_:Gi r.ends<64) (_:-1000000<=r.times) (_:r.times<=1000000) (_:∀H',au H H'->Q (.bl (mE rs r)) H')
def qP:cG P w base 2 T.jT (qm K):=by
 nomatch T.jT,["repeats","repeat"]
 let⟨p,rs,v,r,rfl,⟨vs,hp,il⟩,iv,ht,t0,t1,kk⟩:=h;let⟨a,e,rfl,ha,he⟩:=iR iv;let vl:=aI il;let tail:(∀H',au H H'->Q (.bl (decide (r.first<=r.last)&&gN r)) H')->(if decide (r.first<=r.last)=true then cy oE [] E0 (aF (aK 1) bK) [some (.ref p),some (.ref a)] H Q else Q (.bl false) H):=by
  intro k
  by_cases c:r.first<=r.last
  ·rw[zd c,yM] at k
   refine bF (zd c) ?_;exact{_,rfl,_,r,rfl,iv,ht,t0,t1,k}
  ·rw[zc c,yK] at k
   refine bG (zc c) ?_;exact k _ (au.refl _)
 refine{_,(ae (ax (PW.pt (d0 (ptr gf (c5 aq T.aP (aa (pv 0) af)) ah) (c7 (ptr mM (b4 (pv 1) ah) (b4 (eF (pv 0) (FD vA ah)) ah)))))
  (ai (aj fe))
  ak)
  (ai (aj (gd (bT mM (b4 (pv 1) ah) (b4 (pv 1) ah) (dj _)) (hU (bx (Cn T) hr T.rA (aa (pv 1) af))))))),?_}
 ac_rfl;exists p,_,rfl,.inl hp,?_;rw[vl];left
 by_cases h0:0<⇑rs
 ·refine bF (zd ()) ?_
  let hi:⇑rs-1<⇑vs:=()
  let⟨q,hq,iq⟩:=cX il (zb hi);let⟨b,eb,evb,hb,_⟩:=iR iq;let eg:rs.getLast?=some q:=by rw[xP];exact hq
  unfold mE at kk;rw[eg] at kk;left;refine{p,vs,-1,_,rfl,rfl,hp,F3 (by rw[vl];exact zb hi),?_};rw[evb];left
  by_cases c:r.first<=q.last
  ·refine bF (zd c) ?_
   simp only[yF c] at kk;change kk _ (au.refl _)
  ·refine bG (zc c) ?_
   simp only[yE c] at kk;change tail kk
 ·refine bG (zc ()) ?_
  let e0:rs=[]:=yi.mp ();unfold mE at kk;rw[e0] at kk;change tail kk
def F6 (x:Sc.Lu):Prop:=0<=x.bc.1/\x.bc.1<=1000/\0<x.bc.2/\x.bc.2<=1000
inductive Qq (C:wV) (H:Hp) (a:wV) (o:Ow):Prop
 | mk (ub jm:V) (_:H a=some (.ins C o.dx (Ko o ub jm)))
structure Pf (C:wV) (H:Hp) (a:wV) (S:cF) (o:Ow):Prop where
 obj:Qq C H a o
 ba:JU H rN o.ba S.bq
def Pf.of {C a:wV} {H:Hp} {S:cF} {o:Ow} (h:bo C H a S o):Pf C H a S o:={by let⟨ub,jm,h1,_⟩:=h.obj;exact{(ub),jm,h1},h.ba}
inductive oZ (C:wV) (vs:List V) (H:Hp) (Q:VK) (E:XK):Prop
 | mk (a:wV) (S:cF) (o:Ow) (b:Nat) (_:vs=[.ref a,.int b]) (_:Pf C H a S o) (_:b<⇑S.bq) (_:(∀x∈S.bq,F6 x)) (_:∀p H',au H H'->H' p=some (fw (S.bc b))->Q (.ref p) H')
def Nv {H:Hp} {b:Sc.Lu} {v:V} (h:Is H (rN b) v):∃a m q,v=.ref a/\H a=some (.tup [.ref m,.int b.key,.ref q])/\H m=some (fw b.bc):=by
 unfold rN Is at h;let⟨a,vs,rfl,ha,hl⟩:=h;unfold ar at hl;let⟨v1,r1,rfl,h1,hl⟩:=hl;unfold ar at hl;let⟨v2,r2,rfl,h2,hl⟩:=hl;unfold ar at hl;let⟨v3,r3,rfl,h3,hl⟩:=hl;unfold ar at hl;subst hl;unfold Is at h2;subst h2;unfold lG Is at h3;let⟨q,us,rfl,hq,hle⟩:=h3;have:=dF (o:=some b.bc) h1;cases this with
 | ref hm=>exact{a,_,q,rfl,ha,hm}
def jr {C:wV} (F:Cf K C):cG P w base 3 T.fH (oZ C):=by
 nomatch T.fH,["score","bar","metre"]
 let⟨a,S,o,b,rfl,sc,hb,aT,kk⟩:=h;let⟨ub,jm,ho⟩:=sc.obj;let⟨vs,hv,il⟩:=sc.ba;let hi:b<⇑vs:=by rw[aI il];exact hb
 let⟨x,hx,ix⟩:=cX il (zb hi);let⟨a1,m,q,ev,h1,hm⟩:=Nv ix;let⟨k1,k2,k3,k4⟩:=aT x (zy hx);unfold cF.bc at kk;rw[hx] at kk;refine{_,(ae (ck 2 qN (b4 (eF (aR (pv 0) rfl) (pv 1)) ah))
  (ai (aj (bx (gg T) hr T.cW (aa (b4 (pv 2) ah) (aa (b4 (pv 2) ah) af)))))),?_}
 ac_rfl;exists a,C,o.dx,_,_,rfl,ho,F.cls,F.bq,rfl,?_;left;refine{o.ba,vs,b,_,rfl,rfl,aD.of hv,aQ (zb hi),?_};rw[ev];change{_,_,rfl,k1,k3,(bp (n:=10) () ()).mono ∅,λp H' s' h'=>kk p H' s' h'}
inductive ql (C:wV) (vs:List V) (H:Hp) (Q:VK) (E:XK):Prop
 | mk (a:wV) (S:cF) (o:Ow) (b:Nat) (_:vs=[.ref a,.int b]) (_:bo C H a S o) (_:b<⇑S.bq) (_:(∀x∈S.bq,F6 x)) (_:∀p H',au H H'->H' p=some (fw (S.len b))->Q (.ref p) H')
def qM {C:wV} (F:Cf K C):cG P w base 4 T.jG (ql C):=by
 nomatch T.jG,["score","bar"]
 let⟨a,S,o,b,rfl,sc,hb,aT,kk⟩:=h;let⟨ub,jm,ho,hub,hjm⟩:=sc.obj;unfold cF.len at kk;refine{_,(ae (ax (PW.pt (d0 (ptr bE (pv 1) ah) (c7 (aY (iX (aR (pv 0) rfl))))))
  (ai (aj (aR (pv 0) rfl)))
  ak)
  (ai (aj (bx (jr T F) hr T.fH (aa (pv 0) (aa (pv 1) af)))))),?_}
 ac_rfl;left
 by_cases c:b=0
 ·refine bF (by rw[c];rfl) ?_
  exists a,C,o.dx,_,_,rfl,ho,F.cls,F.aE,rfl,?_;cases q:S.aE with
  | none=>
   rw[q] at kk hub;unfold dO Is at hub;subst hub;change{a,S,o,b,rfl,.of sc,hb,aT,kk}
  | some u=>
   rw[q] at kk hub;cases dF (o:=some u) hub with
   | ref hu=>
    exists a,C,o.dx,_,_,rfl,ho,F.cls,F.aE,rfl,?_;refine kk _ _ (au.refl _) ?_;simp only[yF c];exact hu
 ·refine bG (zc λz=>c (by have:=V.int.inj z;ext)) ?_
  left;refine{a,S,o,b,rfl,.of sc,hb,aT,λp H' s' h'=>kk p H' s' ?_};cases q:S.aE with
  | none=>exact h'
  | some u=>simp only[yE c];exact h'
theorem iC (n:Str):∀ns:List Str,Hq (.str n) (ns.map V.str)=decide (n∈ns)
 | []=>rfl
 | m::ns=>by
  let ih:=iC n ns;unfold Hq at ih ⊢;rw[zf,y9,ih]
  by_cases e:n=m
  ·subst e
   simp[GX]
  ·let e':¬m=n:=λz=>e z.symm
   simp[GX,e,e']
theorem fW:∀ns:List Str,(ns.map V.str).all kh=true
 | []=>rfl
 | n::ns=>by rw[zf,wq,fW ns];rfl
inductive dn (C:wV) (D:Hp->V->cF->Option Str->Prop) (vs:List V) (H:Hp) (Q:VK) (E:XK):Prop
 | mk (a:wV) (S:cF) (o:Ow) (v:V) (f:Option Str) (_:vs=[.ref a,v]) (_:bo C H a S o) (_:D H v S f) (_:∀H',au H H'->Q (os f) H')
def jh (C:wV):Sp:=dn C λ_ v S f=>∃n,v=.str n/\f=fault S (.aZ n)
def pq {C:wV} (F:Cf K C):cG P w base 1 T.fG (jh C):=by
 nomatch T.fG,["score","player"]
 let⟨a,S,o,v,f,rfl,sc,⟨n,rfl,rfl⟩,kk⟩:=h;let⟨ub,jm,ho,hub,hjm⟩:=sc.obj;let k:=kk H (au.refl H);unfold fault at k;dsimp only at k;refine{_,(ae (ax (kD uN (pv 1) (aR (pv 0) rfl) (by with_unfolding_all rfl))
  (ai (aj ay))
  ak)
  (ae (ax (ptr Cc (c5 aq T.aP (aa (aR (pv 0) rfl) af)) (aN (v:=.int (12)) (by rfl) T.rV {_,rfl}))
  (ai (aj ay))
  ak)
  (ai (aj aH)))),?_}
 ac_rfl;exists a,C,o.dx,_,_,rfl,ho,F.cls,F.players,rfl,?_;refine{o.pl,_,rfl,.inl (aD.of sc.pl),rfl,fW _,?_};show∃k,V.bl (Hq (.str n) (S.players.map V.str))=.bl k/\_;rw[iC]
 by_cases c1:n∈S.players
 ·rw[zd c1]
  rw[yF c1] at k;change k
 ·rw[zc c1]
  rw[yE c1] at k;exists a,C,o.dx,_,_,rfl,ho,F.cls,F.players,rfl,?_;exists o.pl,_,rfl,.inl (aD.of sc.pl),?_;rw[za];left
  by_cases c2:12<=⇑S.players
  ·refine bF (zd ()) ?_
   rw[yF c2] at k;change k
  ·refine bG (zc ()) ?_
   rw[yE c2] at k;change k
def mw (C:wV):Sp:=dn C λ_ _ S f=>∃b,f=fault S (.bar b)
def Ap {C:wV} (F:Cf K C):cG P w base 1 T.kP (mw C):=by
 nomatch T.kP,["score","told"]
 let⟨a,S,o,v,f,rfl,sc,⟨b,rfl⟩,kk⟩:=h;let⟨ub,jm,ho,hub,hjm⟩:=sc.obj;let⟨vs,hv,il⟩:=sc.ba;let vl:=aI il;let k:=kk H (au.refl H);unfold fault at k;dsimp only at k;refine{_,(ae (ax (ptr Cc (c5 aq T.aP (aa (aR (pv 0) rfl) af)) (aN (v:=.int (200)) (by rfl) T.Dg {_,rfl}))
  (ai (aj ay))
  ak)
  (ai (aj aH))),?_}
 ac_rfl;exists a,C,o.dx,_,_,rfl,ho,F.cls,F.bq,rfl,?_;exists o.ba,_,rfl,.inl (aD.of hv),?_;rw[vl];left
 by_cases c2:200<=⇑S.bq
 ·refine bF (zd ()) ?_
  rw[yF c2] at k;change k
 ·refine bG (zc ()) ?_
  rw[yE c2] at k;change k
theorem mv (n:Str):∀{ks:List Str} {vs:List V},⇑vs=⇑ks->(cS ((ks.map kS).zip vs) (kS n)).isSome=decide (n∈ks)
 | [],_,_=>by simp[cS]
 | k::ks,[],h=>by simp at h
 | k::ks,v::vs,h=>by
  let ih:=mv n (ks:=ks) (vs:=vs) (by simpa using h);rw[zf,yN];unfold cS at ih ⊢;rw[yJ]
  by_cases e:k=n
  ·subst e
   simp
  ·let e1:¬kS k=kS n:=λz=>e (wu z)
   let e2:¬n=k:=λz=>e z.symm;simp only[e1,decide_false] at ih ⊢;rw[ih];simp[e2]
def fA (C:wV):Sp:=dn C λH v S f=>∃x,Is H (l8 x) v/\f=fault S (.cO x.1 x.2.1 x.2.2)
def CH {H:Hp} {x:Str×(Int×Int)×(Int×Int)} {v:V} (h:Is H (l8 x) v):∃a t l,v=.ref a/\H a=some (.tup [.str x.1,t,l])/\Is H (dL x.2.1) t/\Is H (dL x.2.2) l:=by
 unfold l8 Is at h;let⟨a,vs,rfl,ha,hl⟩:=h;unfold ar at hl;let⟨v1,r1,rfl,h1,hl⟩:=hl;unfold ar at hl;let⟨v2,r2,rfl,h2,hl⟩:=hl;unfold ar at hl;let⟨v3,r3,rfl,h3,hl⟩:=hl;unfold ar at hl;subst hl;unfold Is at h1;subst h1;exact{(a),v2,v3,rfl,ha,h2,h3}
def kW {C:wV} (F:Cf K C):cG P w base 1 T.c8 (fA C):=by
 nomatch T.c8,["score","told"]
 let⟨a,S,o,v,f,rfl,sc,⟨x,iv,rfl⟩,kk⟩:=h;let⟨ub,jm,ho,hub,hjm⟩:=sc.obj;let⟨vs,hv,il⟩:=sc.ins;let⟨a1,t,l,rfl,h1,_,_⟩:=CH iv;let vl:=aI il;let em:(S.aB.map λx=>kS x.1)=(S.aB.map (·.1)).map kS:=by rw[zw];rfl
 let k:=kk H (au.refl H);unfold fault at k;dsimp only at k;refine{_,(ae (ax (aY (Ef (jw hr) (b4 (pv 1) ah) (aR (pv 0) rfl)))
  (ai (aj ay))
  ak)
  (ae (ax (ptr Cc (c5 EV T.aP (aa (aR (pv 0) rfl) af)) (aN (v:=.int (12)) (by rfl) T.mh {_,rfl}))
  (ai (aj ay))
  ak)
  (ai (aj aH)))),?_}
 ac_rfl;exists a,C,o.dx,_,_,rfl,ho,F.cls,F.aB,rfl,?_;refine{o.ins,_,rfl,.inl {_,kS x.1,.inl hv,rfl,rfl},?_};rw[em,mv x.1 (by rw[za];exact vl)];left
 by_cases c1:x.1∈S.aB.map (·.1)
 ·rw[zd c1]
  rw[yF c1] at k;change k
 ·rw[zc c1]
  rw[yE c1] at k;exists a,C,o.dx,_,_,rfl,ho,F.cls,F.aB,rfl,?_;exists o.ins,_,rfl,hv,?_;rw[xi,za,vl,Nat.min_self];left
  by_cases c2:12<=⇑S.aB
  ·refine bF (zd ()) ?_
   rw[yF c2] at k;change k
  ·refine bG (zc ()) ?_
   rw[yE c2] at k;change k
inductive BJ (K:yr) (C:wV) (vs:List V) (H:Hp) (Q:VK) (E:XK):Prop
 | mk (a p:wV) (S:cF) (o:Ow) (bs:List Int) (_:vs=[.ref a,.ref p]) (_:bo C H a S o) (_:aD K H p (bs.map V.int)) (_:⇑bs<=1000000) (_:∀H',au H H'->Q (.bl (S.has bs)) H')
def gG {C:wV} (F:Cf K C):cG P w base 1 T.iD (BJ K C):=by
 nomatch T.iD,["score","bars"]
 let⟨a,p,S,o,bs,rfl,sc,hp,hl,kk⟩:=h;let sl:=yt;refine{_,(ai (aj (c5 (iH rfl) T.Cy (aa (qL (ts:=["bar"]) (ys:=["score"]) (js:=[0]) (te:=(eG (Bs λi j=>.bl (decide (i<j))) (aK 0) (uB (P7 K) (aF (Gn K (aK 1) "bars") bK)))) (bS (pv 1)) (lE 0) aX (bT gF (pv 0) (c5 aq T.aP (aa (aR (pv 1) rfl) af)) (dj _))) af)))),?_};ac_rfl;exists{_,hp},?_;refine dS (enc:=V.int) (ws:=bs) (λz=>.bl (decide (z<(⇑S.bq:Int)))) (λU=>∃v,U=[v,some (.ref a)]) () hp {(none),rfl} ?_ ?_
 ·rintro z U H1 R hz s1 ⟨_,rfl⟩ r
  let sc1:=sc.mono s1;let⟨ub,jm,ho,hub,hjm⟩:=sc1.obj;let⟨vs,hv,il⟩:=sc1.ba;let vl:=aI il;exists a,C,o.dx,_,_,rfl,ho,F.cls,F.bq,rfl,?_;exists o.ba,vs,rfl,.inl (aD.of hv),?_;rw[vl];change r _ _ _ (au.refl _) (by unfold Is;rfl) {_,rfl}
 ·intro D vs H1 s1 hD il
  let e:bs.map (λz=>Dt.bl (decide (z<(⇑S.bq:Int))))=(bs.map λz=>decide (z<(⇑S.bq:Int))).map Dt.bl:=by rw[zw];rfl
  rw[e] at il;rw[i6 il] at hD;refine{D,_,rfl,aD.of hD,?_};let e2:(bs.map λz=>decide (z<(⇑S.bq:Int))).all id=S.has bs:=by rw[xN];rfl
  rw[e2];exact kk _ s1
inductive o6 (K:yr) (vs:List V) (H:Hp) (Q:VK) (E:XK):Prop
 | mk (p:wV) (us:List V) (its:List Item) (_:vs=[.ref p]) (_:aD K H p us) (_:ar H (its.map gk) us) (_:⇑its<=500) (_:(∀it∈its,ow it.2)) (_:∀r H',au H H'->H' r=some (fw (gW its))->Q (.ref r) H')
def nz (l:List Item) (it:Item):gW (l++[it])=add (gW l) it.2:=by unfold gW;rw[zS];rfl
def pw:cG P w base 4 T.i5 (o6 K):=by
 nomatch T.i5,["items","length","item"]
 let⟨p,us,its,rfl,hp,il,hl,aT,kk⟩:=h;let sl:=yt;let ul:=aI il;refine{_,(ae (ck 1 qN (bB (aa ah (aa ah af))))
  (ae (hJ yG rfl (bS (pv 0)) (FA 2 qN)
  (ai (ck 1 qN (bx (IQ T) hr T.added (aa (pv 1) (aa (b4 (pv 2) ah) af))))))
  (ai (aj (pv 1))))),?_}
 ac_rfl;exists di,?_;intros p1 H1 s1 h1;exists{_,s1.seq hp},?_;refine kg (K:=K) (a:=p) (xs:=us) (λi U H'=>au H H'/\∃q v,U=[some (.ref p),some (.ref q),v]/\H' q=some (fw (gW (its.take i)))/\Lm.Rd (gW (its.take i))/\pH (15*i+1) (gW (its.take i))) {s1,p1,none,rfl,h1,?_,?_} (λi U H' _ h=>h.1.seq hp) ?_ ?_
 ·exact Lm.Rd.zero
 ·show pH 1 (0,1)
  exact{bp ∅ ∅,bp ∅ ∅}
 ·rintro i x U H2 hx ⟨s2,q,v,rfl,hq,rq,zq⟩
  let⟨it,hit,iit⟩:=cX il hx;let⟨a6,pv,lv,rfl,h6,_,i8⟩:=item_at (iit.mono s2);let hi:i<⇑its:=(zt.mp hit).1;let⟨ok1,JY,P9,ok4⟩:=aT it (zy hit);cases dF (o:=some it.2) i8 with
  | ref h8=>
   let zi:pH 14 it.2:={bp () (),bp (by have:=ok1.pos;ext) ()}
   exists _,_,_,_,_,_,rfl,hq,h8,rq,ok1,zq,zi,(),λr H3 s3 h3=>?_;let e:=gw hit;refine{s2.trans s3,r,_,rfl,?_,?_,?_}
   ·rw[e,nz];exact h3
   ·rw[e,nz];exact rq.add ok1
   ·rw[e,nz];exact{(pH.add rq ok1 zq zi).1.mono (),(pH.add rq ok1 zq zi).2.mono ()}
 ·rintro U H2 ⟨s2,q,v,rfl,hq,_,_⟩
  rw[ul,zK] at hq;change kk _ _ s2 hq
def JT (S:cF):Prop:=∀r∈S.repeats,⇑r.ends<=1000000
def lz (C:wV):Sp:=dn C λH v S f=>∃j,Is H (lH j) v/\JT S/\f=fault S (.cD j)
def CN {l:List V} {i:Nat} {x:V} (h:l[i]?=some x):(l.take (i+1)).filter (λv=>!eI v)=(l.take i).filter (λv=>!eI v)++(if eI x=true then [] else [x]):=by
 rw[gw h,yO];cases q:eI x with
 | true=>simp[q]
 | false=>simp[q]
def tw {C:wV} (F:Cf K C):cG P w base 5 T.i4 (lz C):=by
 nomatch T.i4,["score","jump"]
 let⟨a,S,o,v,f,rfl,sc,⟨j,iv,rok,rfl⟩,kk⟩:=h;let sl:=yt;let⟨ub,jm,ho,hub,hjm⟩:=sc.obj;let⟨vs,hv,il⟩:=sc.re;let⟨a1,rfl,h1⟩:=pO iv;unfold fault at kk;dsimp only at kk;refine{_,(ae (ax (aY (iX (aR (pv 0) rfl)))
  (ai (aj ay))
  ak)
  (ae (ax (cv (bf (bx (gG T F) hr T.iD (aa (pv 0) (aa (qL (ts:=["bar"]) (ys:=[]) (js:=[]) (g:=(bH 0)) (tc:=(tB (HN (aK 0)))) (te:=(aK 0)) (lW (pv 1)) (lE 0) (Fz (aY (iX (pv 0)))) (pv 0)) af)))))
  (ai (aj ay))
  ak)
  (ae (ax (cv (bf (bx (An T) hr T.og (aa (aR (pv 0) rfl) (aa (pv 1) af)))))
  (ai (aj ay))
  ak)
  (ai (aj aH))))),?_}
 ac_rfl;exists a,C,o.dx,_,_,rfl,ho,F.cls,F.cD,rfl,?_;cases q:S.cD with
 | some j'=>
  rw[q] at hjm kk;let⟨a2,rfl,_⟩:=pO hjm;change kk _ (au.refl _)
 | none=>
  rw[q] at hjm kk;unfold dO Is at hjm;subst hjm;rw[yE ∅] at kk;exists{_,cx.of h1},?_;generalize hw:[V.int j.CG,V.int j.Et,V.int j.dG,ov j.mf]=ws at h1;let wl:⇑ws=4:=by rw[<-hw];rfl
  refine m6 ⇑ws (λi=>(ws.take i).filter λv=>!eI v) (λi U H'=>H'=H/\∃v,U=[v]) (λi hi=>zJ (yX _ _) (by rw[zN];ext)) () rfl {(rfl),none,rfl} ?_ ?_ ?_ ?_
  ·rintro i U H' hi ⟨rfl,_⟩
   exact Jo (cx.of h1) hi
  ·rintro U H' ⟨rfl,_⟩
   exact{_,cx.of h1,zh _}
  ·rintro i x U H' H2 hi ⟨rfl,v,rfl⟩ ⟨rfl,hy⟩
   let hx:=hy _ (cx.of h1);left
   by_cases e:x=.aU
   ·refine bG (by rw[zd e];rfl) ?_
    refine Ho.skip hi ?_ {rfl,_,rfl};show List.filter _ (List.take (i+1) ws)=List.filter _ (List.take i ws);rw[CN hx,yF (show eI x=true from zd e),zQ]
   ·refine bF (by rw[zc e];rfl) ?_
    left;refine Ho.push hi ?_ {rfl,_,rfl};show List.filter _ (List.take (i+1) ws)=List.filter _ (List.take i ws)++[x];rw[CN hx,yE (by unfold eI;rw[zc e];decide)]
  ·rintro U H' ⟨rfl,_⟩
   rw[zK];let ef:(ws.filter λv=>!eI v)=([j.CG,j.Et,j.dG]++j.mf.toList).map V.int:=by
    rw[<-hw];cases j.mf <;> rfl
   rw[ef];intros D H2 s2 h2;refine{a,D,S,o,_,rfl,sc.mono s2,aD.of h2,?_,λH3 s3=>?_}
   ·cases j.mf <;> simp
   ·cases qb:S.has ([j.CG,j.Et,j.dG]++j.mf.toList) with
    | false=>
     rw[qb] at kk;change kk _ (s2.trans s3)
    | true=>
     rw[qb,yE (by simp)] at kk;let s03:=s2.trans s3;let sc3:=sc.mono s03;exists a,C,o.dx,_,_,rfl,s03 _ _ ho,F.cls,F.repeats,rfl,?_;exists o.re,S.repeats,_,j,rfl,{vs,aD.of (s03 _ _ hv),il.mono s03},rok,iv.mono s03,λH4 s4=>?_;cases qj:mU S.repeats j with
     | false=>
      rw[qj] at kk;change kk _ (s03.trans s4)
     | true=>
      rw[qj,yE (by simp)] at kk;change kk _ (s03.trans s4)
def jg (C:wV):Sp:=dn C λH v S f=>∃r:Rep,Is H (lg r) v/\Gi r.ends<64/\⇑r.ends<=1000/\-1000000<=r.times/\r.times<=1000000/\f=fault S (.rep r)
def pk {C:wV} (F:Cf K C):cG P w base 3 T.fF (jg C):=by
 nomatch T.fF,["score","repeat"]
 let⟨a,S,o,v,f,rfl,sc,⟨r,iv,ht,hl,t0,t1,rfl⟩,kk⟩:=h;let sl:=yt;let⟨ub,jm,ho,hub,hjm⟩:=sc.obj;let⟨vs,hv,il⟩:=sc.re;let vl:=aI il;let⟨a1,e,rfl,h1,he⟩:=iR iv;unfold Is at he;let⟨e',us,ee,hu,ilu⟩:=he;cases ee;unfold fault at kk;dsimp only at kk;refine{_,(ae (ax (cv (bf (bx (gG T F) hr T.iD (aa (pv 0) (aa (az cN (bg (aa (b4 (pv 1) ah) (aa (b4 (pv 1) ah) af))) (qL (ts:=["end"]) (ys:=[]) (js:=[]) (te:=(eG (nO K) (aK 0) (tC (.int (0))))) (lW (b4 (pv 1) ah)) (lE 0) aX (b4 (pv 0) ah))) af)))))
  (ai (aj ay))
  ak)
  (ae (ax (PW.pt (dh (aY (iX (aR (pv 0) rfl))) (cu (cv (bf (bx (qP T) hr T.jT (aa (aR (pv 0) rfl) (aa (pv 1) af))))))))
  (ai (aj ay))
  ak)
  (ae (ax (ptr Cc (c5 aq T.aP (aa (aR (pv 0) rfl) af)) (aN (v:=.int (20)) (by rfl) T.rT {_,rfl}))
  (ai (aj ay))
  ak)
  (ai (aj aH))))),?_}
 ac_rfl;exists di,?_;intros p2 H2 s2 h2;let h12:=s2 _ _ h1;exists{_,cx.of (s2 _ _ hu)},?_;let⟨ps,f1,f2,f3⟩:=kL ilu;let pl:⇑ps<=1000:=by
  have:⇑ps=⇑r.ends:=by rw[<-f1,za]
  ext
 refine gq (enc:=λz:Sc.End×V=>z.2) (ws:=ps) (λz=>.int z.1.1) (λU=>∃v,U=[v]) () (by rw[f2];exact s2 _ _ hu) {(none),rfl} ?_ ?_
 ·rintro z U H6 R' hz s6 ⟨_,rfl⟩ r'
  let⟨a6,q6,ev,h6,h7⟩:=AJ (f3 z hz);rw[ev];let h66:=s6 _ _ (s2 _ _ h6);change r' _ _ _ (au.refl _) dI {_,rfl}
 ·intro D vs5 H3 s3 hD il5
  let e5:ps.map (λz=>Dt.int z.1.1)=(r.ends.map (·.1)).map Dt.int:=by rw[<-f1,zw,zw];rfl
  rw[e5] at il5;rw[gK il5] at hD;refine{p2,D,_,_,rfl,rfl,aD.of (s3 _ _ h2),aD.of hD,by rw[za,za];show 2+_<=_;ext,?_};rw[show [V.int r.first,V.int r.last]++List.map V.int (r.ends.map (·.1))=([r.first,r.last]++r.ends.map (·.1)).map V.int from by rw[zg];rfl];intros p4 H4 s4 h4;let s04:=(s2.trans s3).trans s4;refine{a,p4,S,o,_,rfl,sc.mono s04,aD.of h4,by rw[ze,za];show 2+_<=_;ext,λH5 s5=>?_};let s05:=s04.trans s5;cases qb:S.has ([r.first,r.last]++r.ends.map (·.1)) with
  | false=>
   rw[qb] at kk;change kk _ s05
  | true=>
   rw[qb,yE (by simp)] at kk;exists a,C,o.dx,_,_,rfl,s05 _ _ ho,F.cls,F.cD,rfl,?_;cases q:S.cD with
   | some j'=>
    rw[q] at hjm kk;let⟨a2,rfl,_⟩:=pO hjm;change kk _ s05
   | none=>
    rw[q] at hjm kk;unfold dO Is at hjm;subst hjm;rw[yE ∅] at kk;exists a,C,o.dx,_,_,rfl,s05 _ _ ho,F.cls,F.repeats,rfl,?_;exists o.re,S.repeats,_,r,rfl,{vs,aD.of (s05 _ _ hv),il.mono s05},iv.mono s05,ht,t0,t1,λH6 s6=>?_;let s06:=s05.trans s6;cases qj:mE S.repeats r with
    | false=>
     rw[qj] at kk;change kk _ s06
    | true=>
     rw[qj,yE (by simp)] at kk;exists a,C,o.dx,_,_,rfl,s06 _ _ ho,F.cls,F.repeats,rfl,?_;exists o.re,vs,rfl,.inl (aD.of (s06 _ _ hv)),?_;rw[vl];left
     by_cases c2:20<=⇑S.repeats
     ·refine bF (zd ()) ?_
      rw[yF c2] at kk;change kk _ s06
     ·refine bG (zc ()) ?_
      rw[yE c2] at kk;change kk _ s06
theorem Bw (n:Int×Str):∀{ks:List (Int×Str)} {vs:List V},⇑vs=⇑ks->(cS ((ks.map kN).zip vs) (kN n)).isSome=decide (n∈ks)
 | [],_,_=>by simp[cS]
 | k::ks,[],h=>by simp at h
 | k::ks,v::vs,h=>by
  let ih:=Bw n (ks:=ks) (vs:=vs) (by simpa using h);rw[zf,yN];unfold cS at ih ⊢;rw[yJ]
  by_cases e:k=n
  ·subst e
   simp
  ·let e1:¬kN k=kN n:=λz=>e (by
    unfold kN at z;simp at z;exact Prod.ext z.1 z.2)
   let e2:¬n=k:=λz=>e z.symm;simp only[e1,decide_false] at ih ⊢;rw[ih];simp[e2]
theorem fV {α:Type} {d:α->Dt} {H:Hp}:∀{ls:List (List α)} {as:List wV},bt H d ls as->⇑as=⇑ls
 | [],_,h=>by unfold bt at h;rw[h];rfl
 | l::r,_,⟨a,t,vs,e,_,_,h3⟩=>by rw[e,zo,zo,fV h3]
def KC {x y:Int×Int}:decide ([V.int x.1,V.int x.2]=[V.int y.1,V.int y.2])=decide (x=y):=by
 by_cases h:x=y
 ·subst h;simp
 ·rw[zc h,zc]
  intro z;simp at z;exact h (Prod.ext z.1 z.2)
def jO (C:wV):Sp:=dn C λH v S f=>∃x:Int×Str×List Item,F5 H v x/\0<=x.1/\⇑x.2.2<=500/\(∀it∈x.2.2,ow it.2)/\(∀b∈S.bq,F6 b)/\f=fault S (.av x.1 x.2.1 x.2.2)
def qT {C:wV} (F:Cf K C):cG P w base 5 T.gI (jO C):=by
 nomatch T.gI,["score","told","bar","player","items"]
 let⟨a,S,o,v,f,rfl,sc,⟨⟨b,pn,its⟩,⟨a1,q,us,rfl,h1,hq,ilq⟩,b0,il5,iok,bok,rfl⟩,kk⟩:=h;let sl:=yt;let⟨ub,jm,ho,hub,hjm⟩:=sc.obj;let nl:⇑(o.ns.map V.ref)=⇑(S.av.map (·.1)):=by rw[za,za,fV sc.no.2,za]
 let em:(S.av.map λx=>kN x.1)=(S.av.map (·.1)).map kN:=by rw[zw];rfl
 unfold fault at kk;dsimp only at kk h1 b0 il5 iok ilq;refine{_,(ae (ck 2 qN (b4 (pv 1) ah))
  (ae (ck 3 qN (b4 (pv 1) ah))
  (ae (ck 4 qN (b4 (pv 1) ah))
  (ae (ax (aY (Ef (jw hr) (bB (aa (pv 2) (aa (pv 3) af))) (aR (pv 0) rfl)))
  (ai (aj ay))
  ak)
  (ae (ax (kD d4 (pv 3) (aR (pv 0) rfl) (by with_unfolding_all rfl))
  (ai (aj ay))
  ak)
  (ae (ax (cv (bf (bx (gG T F) hr T.iD (aa (pv 0) (aa (bg (aa (pv 2) af)) af)))))
  (ai (aj ay))
  ak)
  (ae (ax (ptr (Eh hr.units) (bx (pw T) hr T.i5 (aa (pv 4) af)) (bx (qM T F) hr T.jG (aa (pv 0) (aa (pv 2) af))))
  (ai (aj ay))
  ak)
  (ae (ax (ptr gf (c5 aq T.aP (aa (pv 4) af)) (aN (v:=.int (40)) (by rfl) T.A6 {_,rfl}))
  (ai (aj ay))
  ak)
  (ai (aj aH)))))))))),?_}
 ac_rfl;exists di,?_;intros p2 H2 s2 h2;let h12:=s2 _ _ h1;exists a,C,o.dx,_,_,rfl,s2 _ _ ho,F.cls,F.av,rfl,?_;refine{o.no,_,rfl,.inr {_,kN (b,pn),p2,.inl (s2 _ _ sc.no.1),rfl,h2,rfl},?_};rw[em,Bw (b,pn) nl];left
 by_cases c1:(b,pn)∈S.av.map (·.1)
 ·rw[zd c1]
  rw[yF c1] at kk;change kk _ s2
 ·rw[zc c1]
  rw[yE c1] at kk;exists a,C,o.dx,_,_,rfl,s2 _ _ ho,F.cls,F.players,rfl,?_;refine{o.pl,_,rfl,.inl (aD.of (s2 _ _ sc.pl)),rfl,fW _,?_};show∃k,V.bl (!Hq (.str pn) (S.players.map V.str))=.bl k/\_;rw[iC]
  by_cases c2:pn∈S.players
  ·rw[zd c2]
   rw[yE (λz=>z c2)] at kk;exists by show 1<=sizeLine;ext,?_
   intros p3 H3 s3 h3;refine{a,p3,S,o,[b],rfl,sc.mono (s2.trans s3),aD.of h3,(by show 1<=1000000;decide),λH4 s4=>?_};let s04:=(s2.trans s3).trans s4;cases qb:S.has [b] with
   | false=>
    rw[qb] at kk;change kk _ s04
   | true=>
    rw[qb,yE (by simp)] at kk;let hb:b<⇑S.bq:=by
     unfold cF.has at qb
     simpa using qb
    let⟨n,rfl⟩:=yC b0;exists q,us,its,rfl,aD.of (s04 _ _ hq),ilq.mono s04,il5,iok,λr5 H5 s5 h5=>?_;exists a,S,o,n,rfl,sc.mono (s04.trans s5),(),bok,λr6 H6 s6 h6=>?_;let s06:=(s04.trans s5).trans s6;refine{r5,r6,_,_,rfl,rfl,.inr {cx.of (s6 _ _ h5),cx.of h6},.inr (.inr {(rfl),rfl}),?_};rw[KC]
    by_cases c3:gW its=S.len n
    ·rw[zd c3]
     rw[yE (λz=>z c3)] at kk;exists q,us,rfl,.inl (aD.of (s06 _ _ hq)),?_;rw[aI ilq];left
     by_cases c4:40<⇑its
     ·refine bF (zd ()) ?_
      rw[yF c4] at kk;change kk _ s06
     ·refine bG (zc ()) ?_
      rw[yE c4] at kk;change kk _ s06
    ·rw[zc c3]
     rw[yF (show gW its≠S.len ((n:Int)).toNat from c3)] at kk;change kk _ s06
  ·rw[zc c2]
   rw[yF c2] at kk;change kk _ s2
def both {c:Bool} {T:(Bool->Hp->Prop)->Prop} {Z:Bool->Hp->Prop} {H:Hp} (v:Bool) (h1:c=true->∀Z,Z v H->T Z) (h2:c=false->v=false) (hz:Z v H):if c=true then T Z else Z false H:=by
 cases c with
 | true=>rw[yF rfl];exact h1 rfl Z hz
 | false=>rw[yE (by simp)];rw[<-h2 rfl];exact hz
theorem uY {H:Hp} {α:Type} {d:α->Dt} (p:Str):∀{hs:List (Str×List α)} {as:List wV},bt H d (hs.map (·.2)) as->
  (hs.lookup p=none/\cS ((hs.map λx=>kS x.1).zip (as.map V.ref)) (kS p)=none)\/∃l h vs,hs.lookup p=some l/\cS ((hs.map λx=>kS x.1).zip (as.map V.ref)) (kS p)=some (.ref h)/\H h=some (.lst vs)/\ar H (l.map d) vs
 | [],_,h=>.inl {rfl,by simp[cS]}
 | (x,l)::r,as,h=>by
  rw[zf] at h;unfold bt at h;let⟨a,t,vs,rfl,h1,h2,h3⟩:=h;rw[zf,zf,yN]
  by_cases e:x=p
  ·subst e
   refine .inr {l,a,vs,by rw[yg,xO],?_,h1,h2};unfold cS;rw[yJ];simp
  ·let e1:¬kS x=kS p:=λz=>e (wu z)
   let e2:(p == x)=false:=by simp;exact λz=>e z.symm
   let ih:=uY p h3;unfold cS at ih ⊢;rw[yJ,yg,e2];simp only[e1,decide_false];exact ih
def ON {H:Hp} {x:Int×Str} {v:V} (h:Is H (Le x) v):∃a,v=.ref a/\H a=some (.tup [.int x.1,.str x.2]):=by
 unfold Le Is at h;let⟨a,vs,rfl,ha,hl⟩:=h;unfold ar at hl;let⟨v1,r1,rfl,h1,hl⟩:=hl;unfold ar at hl;let⟨v2,r2,rfl,h2,hl⟩:=hl;unfold ar at hl;subst hl;unfold Is at h1 h2;subst h1 h2;exact{(a),rfl,ha}
def FP {H:Hp} {x:Str×Int×Str} {v:V} (h:Is H (oU x) v):∃a,v=.ref a/\H a=some (.tup [.str x.1,.int x.2.1,.str x.2.2]):=by
 unfold oU Is at h;let⟨a,vs,rfl,ha,hl⟩:=h;unfold ar at hl;let⟨v1,r1,rfl,h1,hl⟩:=hl;unfold ar at hl;let⟨v2,r2,rfl,h2,hl⟩:=hl;unfold ar at hl;let⟨v3,r3,rfl,h3,hl⟩:=hl;unfold ar at hl;subst hl;unfold Is at h1 h2 h3;subst h1 h2 h3;exact{(a),rfl,ha}
def lA (C:wV):Sp:=dn C λH v S f=>∃x:Str×Int×Str,Is H (oU x) v/\f=fault S (.holds x.1 x.2.1 x.2.2)
def tD {C:wV} (F:Cf K C):cG P w base 3 T.i7 (lA C):=by
 nomatch T.i7,["score","told","bar","holds"]
 let⟨a,S,o,v,f,rfl,sc,⟨⟨pn,b,iN⟩,hd,rfl⟩,kk⟩:=h;let⟨a1,rfl,h1⟩:=FP hd;let sl:=yt;let⟨ub,jm,ho,hub,hjm⟩:=sc.obj;unfold fault at kk;dsimp only at kk h1;refine{_,(ae (ck 2 qN (b4 (pv 1) ah))
  (ae (ck 3 qN (II (jw hr) (aR (pv 0) rfl) (b4 (pv 1) ah) (bg af) {(rfl),rfl,rfl,rfl}))
  (ae (ax (PW.pt (d0 (ptr gf (c5 aq T.aP (aa (pv 3) af)) ah) (c7 (ptr mM (pv 2) (b4 (eF (pv 3) (FD vA ah)) ah)))))
  (ai (aj ay))
  ak)
  (ae (ax (PW.pt (dh (kD d4 (b4 (pv 1) ah) (aR (pv 0) rfl) (by with_unfolding_all rfl)) (cu (aY (uJ (jw hr) (b4 (pv 1) ah) (aR (pv 0) rfl))))))
  (ai (aj ay))
  ak)
  (ae (ax (cv (bf (bx (gG T F) hr T.iD (aa (pv 0) (aa (bg (aa (pv 2) af)) af)))))
  (ai (aj ay))
  ak)
  (ae (ax (ptr Cc (c5 aq T.aP (aa (pv 3) af)) (aN (v:=.int (20)) (by rfl) T.A7 {_,rfl}))
  (ai (aj ay))
  ak)
  (ai (aj aH)))))))),?_}
 ac_rfl;exists a,C,o.dx,_,_,rfl,ho,F.cls,F.holds,rfl,?_;refine{o.ho,rfl,.inl {_,.inl sc.ho.1},?_};exists by show 0<=sizeLine;ext,?_
 intros p2 H2 s2 h2;let h12:=s2 _ _ h1;refine{_,.inl {_,kS pn,.inl (s2 _ _ sc.ho.1),rfl,rfl},?_};obtain⟨h,vs,l,eh,hh,ilh,el⟩:∃h vs l,(cS ((S.holds.map λx=>kS x.1).zip (o.hs.map V.ref)) (kS pn)).getD (.ref p2)=.ref h/\H2 h=some (.lst vs)/\ar H2 (l.map Le) vs/\(S.holds.lookup pn).getD []=l:=by
  rcases uY (H:=H) pn sc.ho.2 with⟨e1,e2⟩ | ⟨l,h,vs,e1,e2,hh,il⟩
  ·exact{p2,[],[],by rw[e2];rfl,h2,by unfold ar;rfl,by rw[e1];rfl}
  ·exact{h,vs,l,by rw[e2];rfl,s2 _ _ hh,il.mono s2,by rw[e1];rfl}
 rw[el] at kk;rw[eh];exists h,vs,rfl,.inl (aD.of hh),?_;rw[aI ilh];left;obtain⟨c1,ec,kk⟩:∃c1:Bool,c1=(match l.getLast? with | some q=>decide (b<=q.1) | none=>false)/\∀H',au H H'->Q (Sc.os (if c1=true then some "twice" else if pn∉S.players then some "name" else if iN∉S.aB.map (·.1) then some "name" else if¬S.has [b]=true then some "bar" else if 20<=⇑l then some "many" else none)) H':=by
  refine{_,rfl,?_};cases q:l.getLast? with
  | none=>rw[q] at kk;exact kk
  | some x=>rw[q] at kk;exact kk
 refine both c1 ?_ ?_ ?_
 ·intro c Z hz
  let lp:0<⇑l:=by have:=zX c;ext
  let vl:=aI ilh;let⟨x,hx,ix⟩:=cX ilh (i:=⇑vs-1) (zb ());let⟨a3,ea,h3⟩:=ON ix;let eg:l.getLast?=some x:=by rw[xP,<-vl];exact hx
  rw[ec,eg] at hz;left;refine{h,vs,-1,_,rfl,rfl,aD.of hh,F3 (zb ()),?_};rw[ea];change hz
 ·intro c
  have:l=[]:=yi.mp (by have:=of_decide_eq_false c;ext);rw[ec,this];rfl
 ·clear ec
  cases c1 with
  | true=>
   change kk _ s2
  | false=>
   rw[yE (by simp)] at kk;exists a,C,o.dx,_,_,rfl,s2 _ _ ho,F.cls,F.players,rfl,?_;refine{o.pl,_,rfl,.inl (aD.of (s2 _ _ sc.pl)),rfl,fW _,?_};show∃k,V.bl (!Hq (.str pn) (S.players.map V.str))=.bl k/\_;rw[iC]
   by_cases c2:pn∈S.players
   ·rw[zd c2]
    rw[yE (λz=>z c2)] at kk;let⟨us,hu,ilu⟩:=sc.ins;let em:(S.aB.map λx=>kS x.1)=(S.aB.map (·.1)).map kS:=by rw[zw];rfl
    exists a,C,o.dx,_,_,rfl,s2 _ _ ho,F.cls,F.aB,rfl,?_;refine{o.ins,_,rfl,.inl {_,kS iN,.inl (s2 _ _ hu),rfl,rfl},?_};rw[em,mv iN (by rw[za];exact aI ilu)]
    by_cases c3:iN∈S.aB.map (·.1)
    ·rw[zd c3]
     rw[yE (λz=>z c3)] at kk;exists by show 1<=sizeLine;ext,?_
     intros p3 H3 s3 h3;refine{a,p3,S,o,[b],rfl,sc.mono (s2.trans s3),aD.of h3,(by show 1<=1000000;decide),λH4 s4=>?_};let s04:=(s2.trans s3).trans s4;cases qb:S.has [b] with
     | false=>
      rw[qb] at kk;change kk _ s04
     | true=>
      rw[qb,yE (by simp)] at kk;exists h,vs,rfl,.inl (aD.of ((s3.trans s4) _ _ hh)),?_;rw[aI ilh];left
      by_cases c4:20<=⇑l
      ·refine bF (zd ()) ?_
       rw[yF c4] at kk;change kk _ s04
      ·refine bG (zc ()) ?_
       rw[yE c4] at kk;change kk _ s04
    ·rw[zc c3]
     rw[yF c3] at kk;change kk _ s2
   ·rw[zc c2]
    rw[yF c2] at kk;change kk _ s2
def BE {H:Hp} {x:Str×List Str} {v:V} (h:Is H (ki x) v):∃a q,v=.ref a/\H a=some (.tup [.str x.1,.ref q])/\H q=some (.tup (x.2.map V.str)):=by
 unfold ki Is at h;let⟨a,vs,rfl,ha,hl⟩:=h;unfold ar at hl;let⟨v1,r1,rfl,h1,hl⟩:=hl;unfold ar at hl;let⟨v2,r2,rfl,h2,hl⟩:=hl;unfold ar at hl;subst hl;unfold Is at h1;subst h1;unfold lG Is at h2;let⟨q,us,rfl,hq,hl⟩:=h2;rw[gJ hl] at hq;exact{(a),q,rfl,ha,hq}
def MG {H:Hp} {x:Str×List Str} {v:V} (h:Is H (Ld x) v):∃q,v=.ref q/\H q=some (.tup (x.2.map V.str)):=by
 unfold Ld lG Is at h;let⟨q,us,rfl,hq,hl⟩:=h;rw[gJ hl] at hq;exact{(q),rfl,hq}
inductive BG (C:wV) (vs:List V) (H:Hp) (Q:VK) (E:XK):Prop
 | mk (a:wV) (S:cF) (o:Ow) (v ub jm:V) (x:Str×List Str) (ob:Obj) (us:List V) (_:vs=[.ref a,v]) (_:H a=some (.ins C o.dx (Ko o ub jm))) (_:H o.pl=some (.lst (S.players.map V.str))) (_:Fd H o.st ob ((S.bz.map λx=>kS x.1).zip us)) (_:ar H (S.bz.map Ld) us) (_:Is H (ki x) v) (_:⇑x.2<=1000) (_:∀H',au H H'->Q (os (fault S (.cz x.1 x.2))) H')
theorem DE {α β:Type}:∀{l:List α} {m:List β} {i:Nat} {p:α×β},(l.zip m)[i]?=some p->l[i]?=some p.1/\m[i]?=some p.2
 | [],_,_,_,h=>by simp at h
 | _::_,[],_,_,h=>by simp at h
 | _::_,_::_,0,_,h=>by simp at h;subst h;exact{(rfl),rfl}
 | _::l,_::m,i+1,_,h=>by
  rw[yN] at h
  simpa using DE (l:=l) (m:=m) (i:=i) (by simpa using h)
def JO {α:Type} {p:α->Bool} {l:List α} {i:Nat} {x:α} (h:l[i]?=some x) (hn:(l.take i).any p=false) (hx:p x=false):(l.take (i+1)).any p=false:=by
 rw[gw h,List.any_append,hn];simp[hx]
def JP {α:Type} {p:α->Bool} {l:List α} {i:Nat} {x:α} (h:l[i]?=some x) (hx:p x=true):l.any p=true:=ye.mpr {x,zy h,hx}
def Ce {C:wV} (F:Cf K C):cG P w base 1 T.fb (BG C):=by
 nomatch T.fb,["score","told","players","others"]
 let⟨a,S,o,v,ub,jm,x,ob,us,rfl,ho,hpl,fz,ilu,iv,x5,kk⟩:=h;let⟨a1,q,rfl,h1,hq⟩:=BE iv;let sl:=yt;let ul:=aI ilu;let em:(S.bz.map λx=>kS x.1)=(S.bz.map (·.1)).map kS:=by rw[zw];rfl
 unfold fault at kk;dsimp only at kk;refine{_,(ae (ck 2 qN (b4 (pv 1) ah))
  (ae (ax (PW.pt (dh (aY (Ef (jw hr) (b4 (pv 1) ah) (aR (pv 0) rfl))) (cu (ptr gF (c5 Ha T.aP (aa (FG (G8 rfl) T.Oz (aa (pv 2) af)) af)) (c5 aq T.aP (aa (pv 2) af))))))
  (ai (aj ay))
  ak)
  (ae (hJ yG rfl (GD (aR (pv 0) rfl)) (FA 3 qN)
  (ai (ax (bf (c5 (iG rfl) T.Cw (aa (qL (ts:=["player"]) (ys:=["others"]) (js:=[3]) (te:=(eG (Pc K false) (aK 0) (aK 1))) (lW (pv 2)) (lE 0) aX (bT uN (pv 0) (pv 1) (by with_unfolding_all rfl))) af)))
   (ai (aj ay))
   ak)))
  (ae (ax (bf (c5 (iG rfl) T.Cw (aa (qL (ts:=["player"]) (ys:=["score"]) (js:=[0]) (te:=(eG (Pc K true) (aK 0) (Gn K (aK 1) "players"))) (lW (pv 2)) (lE 0) aX (bT d4 (pv 0) (aR (pv 1) rfl) (by with_unfolding_all rfl))) af)))
  (ai (aj ay))
  ak)
  (ai (aj aH)))))),?_}
 ac_rfl;exists a,C,o.dx,_,_,rfl,ho,F.cls,F.bz,rfl,?_;refine{o.st,_,rfl,.inl {_,kS x.1,.inr {_,fz},rfl,rfl},?_};rw[em,mv x.1 (by rw[za];exact ul)]
 by_cases c1:x.1∈S.bz.map (·.1)
 ·rw[zd c1]
  rw[yF c1] at kk;change kk _ (au.refl _)
 ·rw[zc c1]
  rw[yE c1] at kk;exists q,x.2,rfl,cx.of hq,x5,λp2 n2=>?_;let s2:au H (upd H p2 (Dy p2 ⇑(eO x.2))):=cj n2;let h2:upd H p2 (Dy p2 ⇑(eO x.2)) p2=some (Dy p2 ⇑(eO x.2)):=aA;generalize upd H p2 (Dy p2 ⇑(eO x.2))=H2 at s2 h2 ⊢;let⟨d1,d2⟩:=CV x.2;refine{p2,_,rfl,h2,(),?_};exists q,_,rfl,.inr (cx.of (s2 _ _ hq)),?_;rw[za];left
  by_cases c2:x.2.Nodup
  ·refine bG (zc (by have:=d2.mpr c2;ext)) ?_
   rw[yE (λz=>z c2)] at kk;exists a,C,o.dx,_,_,rfl,s2 _ _ ho,F.cls,F.bz,rfl,?_;refine{o.st,ob,_,rfl,s2 _ _ fz,?_};refine Ex (λi U H'=>au H H'/\(S.bz.take i).any (λq=>x.2.any λp=>decide (p∈q.2))=false/\∃u,U=[some (.ref a),some (.ref a1),some (.ref q),u]) {(s2),rfl,none,rfl} (λi U H' _ h=>h.1 _ _ fz) ?_ ?_
   ·intro i p U H3 hp hh
    refine iM λN kN0 kR0 _ _=>?_;let⟨s3,hn,u,rfl⟩:=hh;let⟨_,hp2⟩:=DE hp;let⟨st,hst,ist⟩:=cX ilu hp2;let⟨r,er,hr'⟩:=MG ist;rw[er];exists{_,cx.of (s3 _ _ hq)},?_;refine gq (enc:=V.str) (ws:=x.2) (λz=>.bl (decide (z∈st.2))) (λU=>∃v,U=[v,some (.ref r)]) () (s3 _ _ hq) {(none),rfl} ?_ ?_
    ·rintro z U H4 R hz s4 ⟨_,rfl⟩ rr
     exists r,_,rfl,.inr (cx.of ((s3.trans s4) _ _ hr')),rfl,fW _,?_;refine rr _ _ _ (au.refl _) ?_ {_,rfl};rw[yE (by simp),iC];unfold Is;rfl
    ·intro D vs H4 s4 hD il
     let e:x.2.map (λz=>Dt.bl (decide (z∈st.2)))=(x.2.map λz=>decide (z∈st.2)).map Dt.bl:=by rw[zw];rfl
     rw[e] at il;rw[i6 il] at hD;refine{D,_,rfl,aD.of hD,?_};let e2:(x.2.map λz=>decide (z∈st.2)).any id=x.2.any λp=>decide (p∈st.2):=by rw[x8];rfl
     rw[e2];cases qc:x.2.any λp=>decide (p∈st.2) with
     | true=>
      rw[yF (JP hst (p:=λq:Str×List Str=>x.2.any λp=>decide (p∈q.2)) qc)] at kk;change kk _ (s3.trans s4)
     | false=>
      change{s3.trans s4,JO hst hn qc,_,rfl}
   ·rintro U H3 ⟨s3,hn,u,rfl⟩
    rw[xi,za,ul,Nat.min_self,zK] at hn;rw[hn,yE (by simp)] at kk;exists{_,cx.of (s3 _ _ hq)},?_;refine gq (enc:=V.str) (ws:=x.2) (λz=>.bl (!decide (z∈S.players))) (λU=>∃v,U=[v,some (.ref a)]) () (s3 _ _ hq) {(none),rfl} ?_ ?_
    ·rintro z U H4 R hz s4 ⟨_,rfl⟩ rr
     exists a,C,o.dx,_,_,rfl,(s3.trans s4) _ _ ho,F.cls,F.players,rfl,?_;refine{o.pl,_,rfl,.inl (aD.of ((s3.trans s4) _ _ hpl)),rfl,fW _,?_};refine rr _ _ _ (au.refl _) ?_ {_,rfl};show Is H4 _ (V.bl (!Hq (.str z) (S.players.map V.str)));rw[iC];unfold Is;rfl
    ·intro D vs H4 s4 hD il
     let e:x.2.map (λz=>Dt.bl (!decide (z∈S.players)))=(x.2.map λz=>!decide (z∈S.players)).map Dt.bl:=by rw[zw];rfl
     rw[e] at il;rw[i6 il] at hD;refine{D,_,rfl,aD.of hD,?_};let e2:(x.2.map λz=>!decide (z∈S.players)).any id=x.2.any λp=>!decide (p∈S.players):=by rw[x8];rfl
     rw[e2];cases qc:x.2.any λp=>!decide (p∈S.players) with
     | true=>
      rw[qc,yF rfl] at kk;change kk _ (s3.trans s4)
     | false=>
      rw[qc,yE (by simp)] at kk;change kk _ (s3.trans s4)
  ·refine bF (zd (by have:⇑(eO x.2)≠⇑x.2:=λz=>c2 (d2.mp z);ext)) ?_
   rw[yF c2] at kk;change kk _ s2
def jN (C:wV):Sp:=dn C λH v S f=>∃x,Is H (ki x) v/\⇑x.2<=1000/\f=fault S (.cz x.1 x.2)
def Js {H:Hp} {d:wV} {o:Obj} {u:HO} (hd:H d=some u) (nt:cg (some u)) {l:List Dt} {vs:List V} (h:ar H l vs):ar (upd H d (.jF o u)) l vs:=ar.upd (by rw[hd];exact nt) h
def BM {H H':Hp} {d:wV} {o:Obj} {u:HO} (hd:H d=some u) (s:au (upd H d (.jF o u)) H'):au H (upd H' d u):=λb z hb=>by
 by_cases e:b=d
 ·subst e;rw[aA,<-hd,hb]
 ·rw[ao e];exact s b z (by rw[ao e];exact hb)
def qO {C:wV} (F:Cf K C):cG P w base 1 T.fb (jN C):=by
 refine(Ce (P:=P) (w:=w) (base:=base) T F).Lz (λvs H Q E h=>?_) (λvs H Q E h=>?_)
 ·let⟨_,_,_,_,_,rfl,_⟩:=h;rfl
 ·let⟨a,S,o,v,f,rfl,sc,⟨x,iv,x5,rfl⟩,kk⟩:=h
  let⟨us,hu,ilu⟩:=sc.st;let⟨ub,jm,ho,hub,hjm⟩:=sc.obj;let nt:cg (some (HO.dK ((S.bz.map λx=>kS x.1).zip us))):=λvs z=>by cases z
  let na:a≠o.st:=λz=>by rw[z,hu] at ho;cases ho
  let np:o.pl≠o.st:=λz=>by have:=sc.pl;rw[z,hu] at this;cases this
  refine{o.st,_,hu,rfl,λob=>{a,S,o,v,ub,jm,x,ob,us,rfl,by rw[ao na];exact ho,by rw[ao np];exact sc.pl,aA,Js hu nt ilu,Is.upd (by rw[hu];exact nt) iv,x5,λH' s'=>kk _ (BM hu s')}}
def Ll (S:cF):Prop:=∀b∈S.bq,F6 b
inductive vN (C:wV) (vs:List V) (H:Hp) (Q:VK) (E:XK):Prop
 | mk (a:wV) (S:cF) (o:Ow) (v ub jm:V) (x:Int×Int) (ob:Obj) (us:List V) (_:vs=[.ref a,v]) (_:H a=some (.ins C o.dx (Ko o ub jm))) (_:Is H (dO dL S.aE) ub) (_:Pf C H a S o) (_:H o.no=some (.jF ob (.dT ((S.av.map λx=>kN x.1).zip us)))) (_:⇑us=⇑S.av) (_:⇑S.av<=1000000) (_:Is H (dL x) v) (_:pH 8999 x) (_:Ll S) (_:∀H',au H H'->Q (os (fault S (.aE x))) H')
def IW {S:cF} (h:Ll S) (b:Nat) (hb:b<⇑S.bq):pH 8999 (S.bc b):=by
 unfold cF.bc;rw[zb hb];let⟨k1,k2,k3,k4⟩:=h _ (yc hb);let⟨g,g1,g2,g3,g4,g5⟩:=iS (t:=S.bq[b].bc.1) k3;let r0:=Eb (t:=S.bq[b].bc.1) (b:=S.bq[b].bc.2) k1;let r1:=qE (t:=S.bq[b].bc.1) (b:=S.bq[b].bc.2) k1;dsimp only;exact{(bp (n:=10) r0 ()).mono ∅,(bp (n:=10) () ()).mono ∅}
def Ag {C:wV} (F:Cf K C):cG P w base 4 T.dW (vN C):=by
 nomatch T.dW,["score","length"]
 let⟨a,S,o,v,ub,jm,x,ob,us,rfl,ho,hub,sb,fz,ul,n6,iv,zx,bok,kk⟩:=h;let sl:=yt;unfold fault at kk;dsimp only at kk;refine{_,(ae (ax (aY (iX (aR (pv 0) rfl)))
  (ai (aj ay))
  ak)
  (ae (ax (ptr bE (c5 aq T.aP (aa (aR (pv 0) rfl) af)) ah)
  (ai (aj ay))
  ak)
  (ae (ax (cv (bf (bx (Ei T) hr T.vV (aa (pv 1) (aa (bx (jr T F) hr T.fH (aa (pv 0) (aa ah af))) af)))))
  (ai (aj ay))
  ak)
  (ae (ax (bf (c5 (iG rfl) T.Cw (aa (qL (ts:=["place"]) (ys:=[]) (js:=[]) (te:=(eG Pd (eG (nO K) (aK 0) (tC (.int (0)))) (tC (.int (0))))) (Kz (aR (pv 0) rfl)) (lE 0) aX (bT bE (b4 (pv 0) ah) ah (dj _))) af)))
  (ai (aj ay))
  ak)
  (ai (aj aH)))))),?_}
 ac_rfl;exists a,C,o.dx,_,_,rfl,ho,F.cls,F.aE,rfl,?_;cases q:S.aE with
 | some u=>
  rw[q,yF (show(some u).isSome=true from rfl)] at kk;rw[q] at hub;cases dF (o:=some u) hub with
  | ref hu=>
   change kk _ (au.refl _)
 | none=>
  rw[q,yE (by simp)] at kk;rw[q] at hub;unfold dO Is at hub;subst hub;let⟨vs,hv,il⟩:=sb.ba;cases dF (o:=some x) iv with
  | ref hx=>
  rename_i a1;exists a,C,o.dx,_,_,rfl,ho,F.cls,F.bq,rfl,?_;exists o.ba,vs,rfl,.inl (aD.of hv),?_;rw[aI il];left
  by_cases c1:⇑S.bq=0
  ·refine bF (by rw[c1];rfl) ?_
   rw[yF c1] at kk;change kk _ (au.refl _)
  ·refine bG (zc λz=>c1 (by have:=V.int.inj z;ext)) ?_
   rw[yE c1] at kk;exists a,S,o,0,rfl,sb,(),bok,λp H1 s1 h1=>?_;refine{_,_,_,_,rfl,s1 _ _ hx,h1,zx,IW bok 0 (),?_}
   by_cases c2:x.1*(S.bc 0).2<(S.bc 0).1*x.2
   ·rw[zd c2]
    rw[yE (λz=>z c2)] at kk;exists a,C,o.dx,_,_,rfl,s1 _ _ ho,F.cls,F.av,rfl,?_;refine{o.no,ob,_,_,rfl,{_,s1 _ _ fz,.inr {_,rfl,rfl,rfl}},?_};let kl:⇑((S.av.map λx=>kN x.1).zip us)=⇑S.av:=by rw[xi,za,ul,Nat.min_self]
    refine ma (ws:=S.av) (λp x H=>∃b,x=.ref b/\H b=some (.tup [.int p.1.1,.str p.1.2])) (λp=>.bl (decide (p.1.1=0))) (λU=>∃v,U=[v]) () {(none),rfl} (λi H2 hi s2=>{{_,s2 _ _ (s1 _ _ fz),.inr {_,rfl,rfl,rfl}},()}) (λH2 s2=>{{_,s2 _ _ (s1 _ _ fz),.inr {_,rfl,rfl,rfl}},()}) ?_ ?_ ?_
    ·rintro i y H2 H3 hi s2 ⟨rfl,p,b,hp,hb,rfl⟩
     refine{au.refl _,b,rfl,?_};let⟨z1,_⟩:=DE hp;rw[zH,zb hi] at z1;simp only[y6,xt] at z1;rw[<-z1] at hb;exact hb
    ·rintro p y U H2 R hp s2 ⟨b,rfl,hb⟩ ⟨_,rfl⟩ r
     left;refine r _ _ _ (au.refl _) ?_ {_,rfl};rw[show decide (V.int p.1.1=V.int 0)=decide (p.1.1=0) from by by_cases h:p.1.1=0 <;> simp[h]];unfold Is;rfl
    ·intro D vs H4 s4 hD il
     let e:S.av.map (λp=>Dt.bl (decide (p.1.1=0)))=(S.av.map λp=>decide (p.1.1=0)).map Dt.bl:=by rw[zw];rfl
     rw[e] at il;rw[i6 il] at hD;refine{D,_,rfl,aD.of hD,?_};let e2:(S.av.map λp=>decide (p.1.1=0)).any id=S.av.any λp=>decide (p.1.1=0):=by rw[x8];rfl
     rw[e2];cases qc:S.av.any λp=>decide (p.1.1=0) with
     | true=>
      rw[qc,yF rfl] at kk;change kk _ (s1.trans s4)
     | false=>
      rw[qc,yE (by simp)] at kk;change kk _ (s1.trans s4)
   ·rw[zc c2]
    rw[yF c2] at kk;change kk _ s1
def jf (C:wV):Sp:=dn C λH v S f=>∃x,Is H (dL x) v/\pH 8999 x/\Ll S/\⇑S.av<=1000000/\f=fault S (.aE x)
def pj {C:wV} (F:Cf K C):cG P w base 4 T.dW (jf C):=by
 refine(Ag (P:=P) (w:=w) (base:=base) T F).Lz (λvs H Q E h=>?_) (λvs H Q E h=>?_)
 ·let⟨_,_,_,_,_,rfl,_⟩:=h;rfl
 ·let⟨a,S,o,v,f,rfl,sc,⟨x,iv,zx,bok,n6,rfl⟩,kk⟩:=h
  let⟨hn,ln⟩:=sc.no;let⟨ub,jm,ho,hub,hjm⟩:=sc.obj;let⟨bs,hb,ilb⟩:=sc.ba;let nt:cg (some (HO.dT ((S.av.map λx=>kN x.1).zip (o.ns.map V.ref)))):=λvs z=>by cases z
  let na:a≠o.no:=λz=>by rw[z,hn] at ho;cases ho
  let nb:o.ba≠o.no:=λz=>by rw[z,hn] at hb;cases hb
  let ho':∀ob,upd H o.no (.jF ob (.dT ((S.av.map λx=>kN x.1).zip (o.ns.map V.ref)))) a=some (.ins C o.dx (Ko o ub jm)):=λob=>by rw[ao na];exact ho
  refine{o.no,_,hn,rfl,λob=>{a,S,o,v,ub,jm,x,ob,o.ns.map V.ref,rfl,ho' ob,Is.upd (by rw[hn];exact nt) hub,{{ub,jm,ho' ob},bs,by rw[ao nb];exact hb,Js hn nt ilb},aA,by rw[za,fV ln,za],n6,Is.upd (by rw[hn];exact nt) iv,zx,bok,λH' s'=>kk _ (BM hn s')}}
noncomputable def jS:Told->Str
 | .aZ _=> "player"
 | .cO _ _ _=> "instrument"
 | .cz _ _=> "staff"
 | .bar _=> "bar"
 | .aE _=> "upbeat"
 | .holds _ _ _=> "holds"
 | .av _ _ _=> "notes"
 | .rep _=> "repeat"
 | .cD _=> "jump"
def Dx (S:cF):Told->Prop
 | .cz _ ps=>⇑ps<=1000
 | .aE l=>pH 8999 l/\Ll S/\⇑S.av<=1000000
 | .av b _ its=>0<=b/\⇑its<=500/\(∀it∈its,ow it.2)/\Ll S
 | .rep r=>Gi r.ends<64/\⇑r.ends<=1000/\-1000000<=r.times/\r.times<=1000000
 | .cD _=>JT S
 | _=>True
inductive Ht (K:yr) {mg:Str->Option wM} (T:Txt K mg) (C:wV):wV->Sp->Prop where
 | aZ:Ht K T C T.eD (jh C)
 | cO:Ht K T C T.cE (fA C)
 | cz:Ht K T C T.eW (jN C)
 | bar:Ht K T C T.gR (mw C)
 | aE:Ht K T C T.eB (jf C)
 | holds:Ht K T C T.fP (lA C)
 | av:Ht K T C T.e9 (jO C)
 | rep:Ht K T C T.eC (jg C)
 | cD:Ht K T C T.fO (lz C)
noncomputable def LR {K:yr} {mg:Str->Option wM} (T:Txt K mg):List (Str×V):=[("player",V.ref T.eD),("instrument",.ref T.cE),("staff",.ref T.eW),("bar",.ref T.gR),("upbeat",.ref T.eB),("holds",.ref T.fP),("notes",.ref T.e9),("repeat",.ref T.eC),("jump",.ref T.fO)]
def Jr (K:yr) {mg:Str->Option wM} (T:Txt K mg) (C:wV) (t:Told):∃f D,nh (LR T) (jS t)=some (.ref f)/\Ht K T C f (dn C D)/\∀H0 H v S,eQ H0 H v (some t)->Dx S t->D H v S (fault S t):=by
 cases t with
 | aZ n=>exact{_,_,rfl,.aZ,λH0 H v S h1 h2=>{(n),h1,rfl}}
 | cO n t l=>exact{_,_,rfl,.cO,λH0 H v S h1 h2=>{(n,t,l),h1,rfl}}
 | cz n ps=>exact{_,_,rfl,.cz,λH0 H v S h1 h2=>{(n,ps),h1,h2,rfl}}
 | bar b=>exact{_,_,rfl,.bar,λH0 H v S h1 h2=>{(b),rfl}}
 | aE l=>exact{_,_,rfl,.aE,λH0 H v S h1 h2=>{(l),h1,h2.1,h2.2.1,h2.2.2,rfl}}
 | holds p b i=>exact{_,_,rfl,.holds,λH0 H v S h1 h2=>{(p,b,i),h1,rfl}}
 | av b p its=>exact{_,_,rfl,.av,λH0 H v S h1 h2=>{(b,p,its),fS.at h1,h2.1,h2.2.1,h2.2.2.1,h2.2.2.2,rfl}}
 | rep r=>exact{_,_,rfl,.rep,λH0 H v S h1 h2=>{(r),h1,h2.1,h2.2.1,h2.2.2.1,h2.2.2.2,rfl}}
 | cD j=>exact{_,_,rfl,.cD,λH0 H v S h1 h2=>{(j),h1,h2,rfl}}
def HK {H0 H:Hp} {v:V} {t:Told} (h:eQ H0 H v (some t)):v≠.aU:=by
 let tp:∀l,Is H (.tup l) v->v≠.aU:=λl z=>by
  unfold Is at z;let⟨a,vs,e,_⟩:=z;rw[e];simp
 cases t with
 | aZ n=>let e:v=.str n:=h;rw[e];simp
 | cO n t l=>exact tp _ h
 | cz n ps=>exact tp _ h
 | bar b=>exact tp _ h
 | aE l=>exact tp _ h
 | holds p b i=>exact tp _ h
 | av b p its=>let⟨a,_,_,e,_⟩:=h;rw[e];simp
 | rep r=>exact tp _ h
 | cD j=>exact tp _ h
noncomputable def Ez (S:cF):Option Told->Option Str
 | none=>some "row"
 | some t=>fault S t
inductive BK (C:wV) (vs:List V) (H:Hp) (Q:VK) (E:XK):Prop
 | mk (a:wV) (S:cF) (o:Ow) (x:Str) (v:V) (H0:Hp) (t:Option Told) (_:vs=[.ref a,.str x,v]) (_:bo C H a S o) (_:eQ H0 H v t) (_:(∀t',t=some t'->x=jS t'/\Dx S t')) (_:∀H',au H H'->Q (os (Ez S t)) H')
def oI:cQ ["score","sort","told","finder"] ["score","sort","told"] (aC lP):=Nb
def Cm (B:Dk P w K T) {C:wV} (F:Cf K C):cG P w base 6 T.rm (BK C):=by
 refine T.rm.F.JY oI λcdv A' outer s H vs Q E hr h=>?_
 ·let⟨a,S,o,x,v,H0,t,rfl,sc,tv,fit,kk⟩:=h
  let hTbV:∀f sp,Ht K T C f sp->NF (fq uq P w K mg base ["score","sort","told","finder"] "fault_of" (aC lP) T.sj cdv A' outer s H E).Bt uq 5 f sp:=by
   intro f sp h;cases h with
   | aZ=>exact{_,_,L2.bL.mono (pq T F) ∅,T.fG.F.kp,T.fG.b}
   | cO=>exact{_,_,L2.bL.mono (kW T F) ∅,T.c8.F.kp,T.c8.b}
   | cz=>exact{_,_,L2.bL.mono (qO T F) ∅,T.fb.F.kp,T.fb.b}
   | bar=>exact{_,_,L2.bL.mono (Ap T F) ∅,T.kP.F.kp,T.kP.b}
   | aE=>exact{_,_,L2.bL.mono (pj T F) ∅,T.dW.F.kp,T.dW.b}
   | holds=>exact{_,_,L2.bL.mono (tD T F) ∅,T.i7.F.kp,T.i7.b}
   | av=>exact{_,_,L2.bL.mono (qT T F) ∅,T.gI.F.kp,T.gI.b}
   | rep=>exact{_,_,L2.bL.mono (pk T F) ∅,T.fF.F.kp,T.fF.b}
   | cD=>exact{_,_,L2.bL.mono (tw T F) ∅,T.i4.F.kp,T.i4.b}
  refine{_,(ae (ax (aY (bO (pv 2)))
   (ai (aj ay))
   ak)
   (ae (ck 3 oI.nd (B9 (aN (v:=.ref T.mG) (by rfl) T.JJ rfl) (pv 1) (λ_ _=>rfl)))
   (ai (aj (Ca (Ht K T C) hTbV (hr.mono ∅) (pv 3) uK (aa (pv 0) (aa (pv 2) af))))))),?_}
  ac_rfl;left;cases t with
  | none=>
   let e:v=.aU:=tv;subst e;change kk _ (au.refl _)
  | some t=>
   let⟨ex,ft⟩:=fit t rfl;subst ex;let⟨f,D,ev,htb,hd⟩:=Jr K T C t;let ne:=HK tv;rw[zc ne];exists T.mG,LR T,jS t,_,rfl,B.Ng,rfl,ev,?_;exists f,_,rfl,htb,?_;change{a,S,o,v,_,rfl,sc,hd H0 H v S tv ft,kk}
def Dl {hs:List (Str×List (Int×Str))} {p:Str} {h:Int×Str} (fr:p∉hs.map (·.1)):gO (hs++[(p,[])]) p h=gO hs p h:=by
 unfold gO;rw[yE fr,yF (by rw[zg];exact zF _ (zv.mpr rfl)),zg];let e:(hs.map λq:Str×List (Int×Str)=>if q.1=p then(q.1,q.2++[h]) else q)=hs:=by
  conv=>rhs;rw[<-List.map_id hs]
  refine xg λq hq=>?_;rw[yE (λz=>fr (by rw[<-z];exact zM (f:=λx:Str×List (Int×Str)=>x.1) hq))];rfl
 rw[e];simp
def um (S:cF):Prop:=(S.holds.map (·.1)).Nodup/\⇑S.holds<=1000000/\∀q∈S.holds,⇑q.2<=1000000
inductive BL (C:wV) (vs:List V) (H:Hp) (Q:VK) (E:XK):Prop
 | mk (a:wV) (S:cF) (o:Ow) (v:V) (pn:Str) (b:Int) (i:Str) (_:vs=[.ref a,v]) (_:bo C H a S o) (_:Is H (oU (pn,b,i)) v) (_:um S) (_:∀H' o',bo C H' a (bJ S (.holds pn b i)) o'->pK (own a o) H H'->(∀x∈own a o',x∈own a o\/H x=none)->Q .aU H')
def mT {o:Ow} {a x:wV} (h:x∈o.lists):x∈own a o:=by
 unfold Ow.lists at h;unfold own;rw[zD,zD] at h ⊢;rcases h with(h | h) | h
 ·refine .inl (.inl ?_)
  simp only[zA,zB,yL] at h ⊢;rcases h with h | h | h <;> simp[h]
 ·exact .inl (.inr h)
 ·exact .inr h
def IL {C a x:wV} {H:Hp} {S:cF} {o:Ow} (h:bo C H a S o) (hx:x∈own a o):∃u,H x=some u:=by
 let⟨_,_,ha,_⟩:=h.obj;let⟨_,hi,_⟩:=h.ins;let⟨_,hs,_⟩:=h.st;let⟨_,hb,_⟩:=h.ba;let⟨_,hr,_⟩:=h.re;unfold own at hx;rw[zD,zD] at hx;rcases hx with(hx | hx) | hx
 ·simp only[zA,zB,yL] at hx
  rcases hx with rfl | rfl | rfl | rfl | rfl | rfl | rfl | rfl
  ·exact{_,ha}
  ·exact{_,h.pl}
  ·exact{_,hi}
  ·exact{_,hs}
  ·exact{_,hb}
  ·exact{_,h.ho.1}
  ·exact{_,h.no.1}
  ·exact{_,hr}
 ·let⟨vs,e⟩:=bC h.ho.2 hx
  exact{_,e}
 ·let⟨vs,e⟩:=bC h.no.2 hx
  exact{_,e}
def Af {C a x:wV} {H:Hp} {S:cF} {o:Ow} (h:bo C H a S o) (hx:H x=none):x∉own a o:=λz=>by
 let⟨u,e⟩:=IL h z;rw[hx] at e;cases e
def CD {hs:List (Str×List (Int×Str))} {as:List wV} {H:Hp} {x:wV} {vs:List V} (hL:bt H Le (hs.map (·.2)) as) (hx:x∈as) (hH:H x=some (.lst vs)) (hb:∀q∈hs,⇑q.2<=1000000):⇑vs<=1000000:=by
 induction hs generalizing as with
 | nil=>unfold bt at hL;rw[hL] at hx;simp at hx
 | cons q r ih=>
  rw[zf] at hL;let⟨a,t,us,rfl,h1,h2,h3⟩:=hL;rcases zA.mp hx with rfl | hx
  ·rw[h1] at hH;cases hH
   have:=aI h2;have:=hb q zk;ext
  ·exact ih h3 hx λq hq=>hb q (zj _ hq)
def Co {C:wV} (F:Cf K C):cG P w base 1 T.rZ (BL C):=by
 nomatch T.rZ,["score","told"]
 let⟨a,S,o,v,pn,b,i,rfl,sc,iv,⟨nk,hl,hb⟩,kk⟩:=h;let⟨a1,rfl,h1⟩:=FP iv;let sl:=yt;let⟨ub,jm,ho,hub,hjm⟩:=sc.obj;let em:(S.holds.map λx=>kS x.1)=(S.holds.map (·.1)).map kS:=by rw[zw];rfl
 let ll:⇑(o.hs.map V.ref)=⇑(S.holds.map (·.1)):=by rw[za,za,fV sc.ho.2,za]
 dsimp only at h1;refine{_,(ae (ax (aY (uJ (jw hr) (b4 (pv 1) ah) (aR (pv 0) rfl)))
  (ai (pM (jw hr) (aR (pv 0) rfl) (b4 (pv 1) ah) (bg af) rfl))
  ak)
  (ai (eT (cV yu yw yv eK (FE (jw hr) (aR (pv 0) rfl) (b4 (pv 1) ah) (λ_ _=>rfl)) (aa (bB (aa (b4 (pv 1) ah) (aa (b4 (pv 1) ah) af))) af))))),?_}
 ac_rfl;exists a,C,o.dx,_,_,rfl,ho,F.cls,F.holds,rfl,?_;refine{o.ho,_,rfl,.inl {_,kS pn,.inl sc.ho.1,rfl,rfl},?_};rw[em,mv pn ll]
 by_cases c1:pn∈S.holds.map (·.1)
 ·rw[zd c1]
  let⟨x,us,e1,e2,e3,e4⟩:=sc.kG nk c1;exists a,C,o.dx,_,_,rfl,ho,F.cls,F.holds,rfl,?_;exists o.ho,_,rfl,.inl {_,kS pn,.inl sc.ho.1,rfl,e1.symm},?_;refine{.inl {rfl,us,aD.of e3},?_};exists di,?_;intros p2 H2 s2 h2;refine{x,us,_,rfl,rfl,s2 _ _ e3,?_,?_}
  ·have:=CD sc.ho.2 e2 e3 hb
   ext
  ·let⟨x',us',f1,f2,f3,f4⟩:=(sc.mono s2).kG nk c1
   let ex:x=x':=by rw[f1] at e1;cases e1;rfl
   subst ex;let eu:us=us':=by have:=s2 _ _ e3;rw[f3] at this;cases this;rfl
   subst eu;change kk _ o (f4 _ b i (d7 h2 (aM dI (aM lY eM)))) ((pK.of s2).trans (pK.upd (mT (by unfold Ow.lists;simp[e2])))) λy hy=>.inl hy
 ·rw[zc c1]
  left
  intros p1 n1 s1 g1 H1
  let sc1:=sc.mono s1;let h11:=s1 _ _ h1;let nl:p1∉o.lists:=λz=>Af sc n1 (mT z);exists a,C,o.dx,_,_,rfl,s1 _ _ ho,F.cls,F.holds,rfl,?_;left;refine{o.ho,_,rfl,.inl {_,kS pn,sc1.ho.1,rfl,?_,rfl},?_}
  ·rw[xi,za];ext
  let sc2:=sc1.IS g1 nl c1;let nt1:cg (H1 o.ho):=by rw[sc1.ho.1];exact λ_ z=>by cases z
  let h12:upd H1 o.ho (.dK (putK ((S.holds.map λx=>kS x.1).zip (o.hs.map V.ref)) (kS pn) (.ref p1))) a1=some (.tup [V.str pn,V.int b,V.str i]):=by rw[ao (Sc.aJ h11 sc1.ho.1 (by simp[kindOf]))];exact h11
  let el:pK (own a o) H (upd H1 o.ho (.dK (putK ((S.holds.map λx=>kS x.1).zip (o.hs.map V.ref)) (kS pn) (.ref p1)))):=(pK.of s1).trans (pK.upd (by unfold own;simp));generalize upd H1 o.ho (.dK (putK ((S.holds.map λx=>kS x.1).zip (o.hs.map V.ref)) (kS pn) (.ref p1)))=H3 at sc2 h12 el ⊢;let⟨ub2,jm2,ho2,_,_⟩:=sc2.obj;let nk2:(({S with holds:=S.holds++[(pn,[])]}:cF).holds.map (·.1)).Nodup:=by
   show((S.holds++[(pn,[])]).map λx:Str×List (Int×Str)=>x.1).Nodup;rw[zg,zP];exact{nk,by simp,λx hx y hy e=>by simp at hy;subst hy;subst e;exact c1 hx}
  let c2:pn∈({S with holds:=S.holds++[(pn,[])]}:cF).holds.map (·.1):=by
   show pn∈(S.holds++[(pn,[])]).map λx:Str×List (Int×Str)=>x.1;rw[zg];exact zF _ (zv.mpr rfl)
  let⟨x,us,e1,e2,e3,e4⟩:=sc2.kG nk2 c2;let hb2:∀q∈S.holds++[((pn,[]):Str×List (Int×Str))],⇑q.2<=1000000:=λq hq=>by
   rcases zD.mp hq with z | z
   ·exact hb q z
   ·rw[zv.mp z];exact zZ _
  exists a,C,_,_,_,rfl,ho2,F.cls,F.holds,rfl,?_;exists o.ho,_,rfl,.inl {_,kS pn,.inl sc2.ho.1,rfl,e1.symm},?_;refine{.inl {rfl,us,aD.of e3},?_};exists di,?_;intros p2 H4 s4 h4;refine{x,us,_,rfl,rfl,s4 _ _ e3,?_,?_}
  ·have:=CD sc2.ho.2 e2 e3 hb2
   ext
  ·let⟨x',us',f1,f2,f3,f4⟩:=(sc2.mono s4).kG nk2 c2
   let ex:x=x':=by rw[f1] at e1;cases e1;rfl
   subst ex;let eu:us=us':=by have:=s4 _ _ e3;rw[f3] at this;cases this;rfl
   subst eu;left;let ea:bJ {S with holds:=S.holds++[(pn,[])]} (.holds pn b i)=bJ S (.holds pn b i):=by
    show({S with holds:=gO (S.holds++[(pn,[])]) pn (b,i)}:cF)={S with holds:=gO S.holds pn (b,i)};rw[Dl c1]
   let sf:=f4 _ b i (d7 h4 (aM dI (aM lY eM)));rw[ea] at sf;let xin:x∈o.hs\/x=p1:=by
    have:x∈o.hs++[p1]:=e2;rw[zD,zv] at this;exact this
   refine kk _ _ sf (λy u ny hy=>?_) λy hy=>?_
   ·let hy4:=s4 _ _ (el y u ny hy)
    rw[ao]
    ·exact hy4
    ·intro z
     subst z;rcases xin with z | z
     ·exact ny (mT (by unfold Ow.lists;simp[z]))
     ·subst z;rw[n1] at hy;cases hy
   ·have:y∈own a o\/y=p1:=by
     unfold own at hy ⊢;simp only[zD,zA,zB,yL] at hy ⊢;rcases hy with(hy | hy | hy) | hy
     ·exact .inl (.inl (.inl hy))
     ·exact .inl (.inl (.inr hy))
     ·exact .inr hy
     ·exact .inl (.inr hy)
    rcases this with z | z
    ·exact .inl z
    ·subst z;exact .inr n1
def pI (S:cF):Prop:=⇑S.players<=1000000/\⇑S.aB<=1000000/\⇑S.bz<=1000000/\⇑S.bq<=1000000/\⇑S.av<=1000000/\⇑S.repeats<=1000000
inductive DR (C:wV) (vs:List V) (H:Hp) (Q:VK) (E:XK):Prop
 | mk (a:wV) (S:cF) (o:Ow) (v:V) (H0:Hp) (t:Told) (_:vs=[.ref a,.str (jS t),v]) (_:bo C H0 a S o) (_:au H0 H) (_:eQ H0 H v (some t)) (_:fault S t=none) (_:um S) (_:pI S) (_:∀H' o',bo C H' a (bJ S t) o'->pK (own a o) H H'->(∀x∈own a o',x∈own a o\/H0 x=none)->Q .aU H')
def AE {c:Prop} [Decidable c] {x:Str} {y:Option Str} (h:(if c then some x else y)=none):¬c/\y=none:=by
 by_cases e:c
 ·rw[yF e] at h;cases h
 ·rw[yE e] at h;exact{(e),h}
theorem oR {H:Hp}:∀l:List Str,ar H (l.map Dt.str) (l.map V.str)
 | []=>eM
 | x::r=>aM lY (oR r)
def Ek {C:wV} (F:Cf K C):cG P w base 2 T.Bf (DR C):=by
 nomatch T.Bf,["score","sort","told"]
 let⟨a,S,o,v,H0,t,rfl,sc0,s0,tv,fn,aT,⟨z1,z2,z3,z4,z5,z6⟩,kk⟩:=h;let sl:=yt;let sc:=sc0.mono s0;let⟨ub,jm,ho,hub,hjm⟩:=sc.obj;let me:∀x∈own a o,x∈own a o\/H0 x=none:=λx hx=>.inl hx;refine{_,(ai (ax (ptr bE (pv 1) ay)
  (ai (eT (cV yu yw yv eK (aR (pv 0) rfl) (aa (pv 2) af))))
  (ai (ax (ptr bE (pv 1) ay)
   (ai (pM (jw hr) (aR (pv 0) rfl) (b4 (pv 2) ah) (bB (aa (b4 (pv 2) ah) (aa (b4 (pv 2) ah) af))) rfl))
   (ai (ax (ptr bE (pv 1) ay)
    (ai (pM (jw hr) (aR (pv 0) rfl) (b4 (pv 2) ah) (b4 (pv 2) ah) rfl))
    (ai (ax (ptr bE (pv 1) ay)
     (ai (eT (cV yu yw yv eK (aR (pv 0) rfl) (aa (pv 2) af))))
     (ai (ax (ptr bE (pv 1) ay)
      (ai (gc (pv 0) (pv 2) rfl))
      (ai (ax (ptr bE (pv 1) ay)
       (ai (eT (bx (Co T F) hr T.rZ (aa (pv 0) (aa (pv 2) af)))))
       (ai (ax (ptr bE (pv 1) ay)
        (ai (pM (jw hr) (aR (pv 0) rfl) (bB (aa (b4 (pv 2) ah) (aa (b4 (pv 2) ah) af))) (b4 (pv 2) ah) rfl))
        (ai (ax (ptr bE (pv 1) ay)
         (ai (eT (cV yu yw yv eK (aR (pv 0) rfl) (aa (pv 2) af))))
         (ai (gc (pv 0) (pv 2) rfl)))))))))))))))))),?_}
 ac_rfl;cases t with
 | aZ n=>
  let e:v=.str n:=tv;subst e;exists a,C,o.dx,_,_,rfl,ho,F.cls,F.players,rfl,?_;refine{.inl {rfl,_,aD.of sc.pl},?_};exists o.pl,_,_,rfl,rfl,sc.pl,by rw[za];ext,?_
  change kk _ o (sc.E1 n) (pK.upd (by unfold own;simp)) me
 | cO n t l=>
  let⟨a1,t1,l1,rfl,h1,it,il⟩:=CH (x:=(n,t,l)) tv;let fr:=(AE fn).1;exists di,?_;intros p2 H2 s2 h2;let sc2:=sc.mono s2;let h12:=s2 _ _ h1;let⟨vs,hv,ilv⟩:=sc2.ins;exists a,C,o.dx,_,_,rfl,s2 _ _ ho,F.cls,F.aB,rfl,?_;left;refine{o.ins,_,rfl,.inl {_,kS n,hv,rfl,?_,rfl},?_}
  ·rw[xi,za];ext
  exact kk _ o (sc2.Hf hv ilv (d7 h2 (aM (it.mono s2) (aM (il.mono s2) eM))) fr) ((pK.of s2).trans (pK.upd (by unfold own;simp))) me
 | cz n ps=>
  let⟨a1,q,rfl,h1,hq⟩:=BE (x:=(n,ps)) tv;let fr:=(AE fn).1;let⟨vs,hv,ilv⟩:=sc.st;exists a,C,o.dx,_,_,rfl,ho,F.cls,F.bz,rfl,?_;left;refine{o.st,_,rfl,.inl {_,kS n,hv,rfl,?_,rfl},?_}
  ·rw[xi,za];ext
  exact kk _ o (sc.Hd hv ilv (by unfold Ld lG;exact d7 hq (oR ps)) fr) (pK.upd (by unfold own;simp)) me
 | bar b=>
  let⟨vs,hv,ilv⟩:=sc.ba;let vl:=aI ilv;exists a,C,o.dx,_,_,rfl,ho,F.cls,F.bq,rfl,?_;refine{.inl {rfl,_,aD.of hv},?_};exists o.ba,_,_,rfl,rfl,hv,(),?_;change kk _ o (sc.Lh hv ilv tv) (pK.upd (by unfold own;simp)) me
 | aE l=>
  exists a,C,o.dx,_,rfl,ho,F.cls,F.aE,(by show 9<1000;decide),?_;exact kk _ o (sc.EZ ho hjm tv) (pK.upd (by unfold own;simp)) me
 | holds p b i=>
  change{a,S,o,v,p,b,i,rfl,sc,tv,aT,λH' o' s' e' n'=>kk H' o' s' e' λx hx=>(n' x hx).imp id λz=>s0.back z}
 | av b p its=>
  let⟨a1,q,us,rfl,h1,hq,ilq,nq⟩:=tv;let fr:=(AE fn).1;let nl:q∉o.lists:=λz=>Af sc0 nq (mT z);exists a,C,o.dx,_,_,rfl,ho,F.cls,F.av,rfl,?_;exists di,?_;intros p2 H2 s2 h2;let sc2:=sc.mono s2;refine{o.no,_,rfl,.inr {_,kN (b,p),p2,sc2.no.1,rfl,h2,?_,rfl},?_}
  ·rw[xi,za];ext
  refine kk _ _ (sc2.He (s2 _ _ hq) (ilq.mono s2) nl fr) ((pK.of s2).trans (pK.upd (by unfold own;simp))) λx hx=>?_;have:x∈own a o\/x=q:=by
   unfold own at hx ⊢;simp only[zD,zA,zB,yL] at hx ⊢;rcases hx with hx | hx | hx
   ·exact .inl (.inl hx)
   ·exact .inl (.inr hx)
   ·exact .inr hx
  rcases this with z | z
  ·exact .inl z
  ·subst z;exact .inr nq
 | rep r=>
  let⟨vs,hv,ilv⟩:=sc.re;let vl:=aI ilv;exists a,C,o.dx,_,_,rfl,ho,F.cls,F.repeats,rfl,?_;refine{.inl {rfl,_,aD.of hv},?_};exists o.re,_,_,rfl,rfl,hv,(),?_;change kk _ o (sc.Lf hv ilv tv) (pK.upd (by unfold own;simp)) me
 | cD j=>
  exists a,C,o.dx,_,rfl,ho,F.cls,F.cD,(by show 9<1000;decide),?_;exact kk _ o (sc.JR ho hub tv) (pK.upd (by unfold own;simp)) me
def eN {H:Hp} {a C dx p:wV} {fs fs':List (Str×V)} {u:HO} (ha:H a=some (.ins C dx fs)) (np:H p=none) :
  upd (upd H p u) a (.ins C dx fs') a=some (.ins C dx fs')/\upd (upd H p u) a (.ins C dx fs') p=some u/\∀b v,H b=some v->b≠a->upd (upd H p u) a (.ins C dx fs') b=some v:=by
 let na:p≠a:=λz=>by rw[z,ha] at np;cases np
 refine{aA,by rw[ao na,aA],λb v hb ne=>?_};rw[ao ne,ao (λz=>by rw[z,np] at hb;cases hb)];exact hb
def uW {H:Hp} {a C dx:wV} {fs':List (Str×V)}:upd H a (.ins C dx fs') a=some (.ins C dx fs')/\∀b v,H b=some v->b≠a->upd H a (.ins C dx fs') b=some v:=
 {aA,λb v hb ne=>by rw[ao ne];exact hb}
inductive sH (C:wV) (vs:List V) (H:Hp) (Q:VK) (E:XK):Prop
 | mk (a dx:wV) (_:vs=[.ref a]) (_:H a=some (.ins C dx [])) (_:∀H' o,bo C H' a {} o->(∀b u,H b=some u->b≠a->H' b=some u)->(∀x∈own a o,x=a\/H x=none)->Q .aU H')
def sL:cQ ["self"] ["self"] (aC mC):=Nb
def tG {C:wV} (F:Cf K C):bL P w K mg base uq 1 T.jc T.m4 ["self"] (sH C):=by
 refine T.sr.F.JY sL λ_ _ _ _ H vs Q E hr h=>?_
 ·let⟨a,dx,rfl,ha,kk⟩:=h
  let sl:=yt;refine{_,ae (gc (pv 0) (bg af) rfl) (ae (gc (pv 0) qK rfl) (ae (gc (pv 0) qK rfl) (ae (gc (pv 0) (bg af) rfl) (ae (gc (pv 0) aH rfl) (ae (gc (pv 0) qK rfl) (ae (gc (pv 0) IH rfl) (ae (gc (pv 0) (bg af) rfl) (ai (gc (pv 0) aH rfl))))))))),?_};refine{by show 0<=sizeLine;ext,λp1 n1=>?_};refine{_,rfl,a,C,dx,[],rfl,(by rw[ao (λz=>by rw[<-z,ha] at n1;cases n1)];exact ha),F.cls,F.players,(by show 0<1000;decide),?_};let⟨a1,q1,k1⟩:=eN (u:=.lst []) (fs':=aG "players" (.ref p1) []) ha n1;generalize upd (upd H p1 (.lst [])) a (.ins C dx (aG "players" (.ref p1) []))=H1 at a1 q1 k1 ⊢;refine λp2 n2=>{_,rfl,a,C,dx,_,rfl,(by rw[ao (λz=>by rw[<-z,a1] at n2;cases n2)];exact a1),F.cls,F.aB,(by show 1<1000;decide),?_}
  let⟨a2,q2,k2⟩:=eN (u:=.dK []) (fs':=(aG "instruments" (.ref p2) (aG "players" (.ref p1) []))) a1 n2;generalize upd (upd H1 p2 (.dK [])) a (.ins C dx (aG "instruments" (.ref p2) (aG "players" (.ref p1) [])))=H2 at a2 q2 k2 ⊢;refine λp3 n3=>{_,rfl,a,C,dx,_,rfl,(by rw[ao (λz=>by rw[<-z,a2] at n3;cases n3)];exact a2),F.cls,F.bz,(by show 2<1000;decide),?_}
  let⟨a3,q3,k3⟩:=eN (u:=.dK []) (fs':=(aG "staffs" (.ref p3) (aG "instruments" (.ref p2) (aG "players" (.ref p1) [])))) a2 n3;generalize upd (upd H2 p3 (.dK [])) a (.ins C dx (aG "staffs" (.ref p3) (aG "instruments" (.ref p2) (aG "players" (.ref p1) []))))=H3 at a3 q3 k3 ⊢;refine{by show 0<=sizeLine;ext,λp4 n4=>{_,rfl,a,C,dx,_,rfl,(by rw[ao (λz=>by rw[<-z,a3] at n4;cases n4)];exact a3),F.cls,F.bq,(by show 3<1000;decide),?_}};let⟨a4,q4,k4⟩:=eN (u:=.lst []) (fs':=(aG "bars" (.ref p4) (aG "staffs" (.ref p3) (aG "instruments" (.ref p2) (aG "players" (.ref p1) []))))) a3 n4;generalize upd (upd H3 p4 (.lst [])) a (.ins C dx (aG "bars" (.ref p4) (aG "staffs" (.ref p3) (aG "instruments" (.ref p2) (aG "players" (.ref p1) [])))))=H4 at a4 q4 k4 ⊢;refine{_,rfl,a,C,dx,_,rfl,a4,F.cls,F.aE,(by show 4<1000;decide),?_};let⟨a5,k5⟩:=uW (H:=H4) (a:=a) (C:=C) (dx:=dx) (fs':=(aG "upbeat" .aU (aG "bars" (.ref p4) (aG "staffs" (.ref p3) (aG "instruments" (.ref p2) (aG "players" (.ref p1) []))))));generalize upd H4 a (.ins C dx (aG "upbeat" .aU (aG "bars" (.ref p4) (aG "staffs" (.ref p3) (aG "instruments" (.ref p2) (aG "players" (.ref p1) []))))))=H5 at a5 k5 ⊢;refine λp6 n6=>{_,rfl,a,C,dx,_,rfl,(by rw[ao (λz=>by rw[<-z,a5] at n6;cases n6)];exact a5),F.cls,F.holds,(by show 5<1000;decide),?_}
  let⟨a6,q6,k6⟩:=eN (u:=.dK []) (fs':=(aG "holds" (.ref p6) (aG "upbeat" .aU (aG "bars" (.ref p4) (aG "staffs" (.ref p3) (aG "instruments" (.ref p2) (aG "players" (.ref p1) []))))))) a5 n6;generalize upd (upd H5 p6 (.dK [])) a (.ins C dx (aG "holds" (.ref p6) (aG "upbeat" .aU (aG "bars" (.ref p4) (aG "staffs" (.ref p3) (aG "instruments" (.ref p2) (aG "players" (.ref p1) [])))))))=H6 at a6 q6 k6 ⊢;refine λp7 n7=>{_,rfl,a,C,dx,_,rfl,(by rw[ao (λz=>by rw[<-z,a6] at n7;cases n7)];exact a6),F.cls,F.av,(by show 6<1000;decide),?_}
  let⟨a7,q7,k7⟩:=eN (u:=.dT []) (fs':=(aG "notes" (.ref p7) (aG "holds" (.ref p6) (aG "upbeat" .aU (aG "bars" (.ref p4) (aG "staffs" (.ref p3) (aG "instruments" (.ref p2) (aG "players" (.ref p1) [])))))))) a6 n7;generalize upd (upd H6 p7 (.dT [])) a (.ins C dx (aG "notes" (.ref p7) (aG "holds" (.ref p6) (aG "upbeat" .aU (aG "bars" (.ref p4) (aG "staffs" (.ref p3) (aG "instruments" (.ref p2) (aG "players" (.ref p1) []))))))))=H7 at a7 q7 k7 ⊢;refine{by show 0<=sizeLine;ext,λp8 n8=>{_,rfl,a,C,dx,_,rfl,(by rw[ao (λz=>by rw[<-z,a7] at n8;cases n8)];exact a7),F.cls,F.repeats,(by show 7<1000;decide),?_}};let⟨a8,q8,k8⟩:=eN (u:=.lst []) (fs':=(aG "repeats" (.ref p8) (aG "notes" (.ref p7) (aG "holds" (.ref p6) (aG "upbeat" .aU (aG "bars" (.ref p4) (aG "staffs" (.ref p3) (aG "instruments" (.ref p2) (aG "players" (.ref p1) []))))))))) a7 n8;generalize upd (upd H7 p8 (.lst [])) a (.ins C dx (aG "repeats" (.ref p8) (aG "notes" (.ref p7) (aG "holds" (.ref p6) (aG "upbeat" .aU (aG "bars" (.ref p4) (aG "staffs" (.ref p3) (aG "instruments" (.ref p2) (aG "players" (.ref p1) [])))))))))=H8 at a8 q8 k8 ⊢;refine{_,rfl,a,C,dx,_,rfl,a8,F.cls,F.cD,(by show 8<1000;decide),?_};let⟨a9,k9⟩:=uW (H:=H8) (a:=a) (C:=C) (dx:=dx) (fs':=(aG "jump" .aU (aG "repeats" (.ref p8) (aG "notes" (.ref p7) (aG "holds" (.ref p6) (aG "upbeat" .aU (aG "bars" (.ref p4) (aG "staffs" (.ref p3) (aG "instruments" (.ref p2) (aG "players" (.ref p1) []))))))))));generalize upd H8 a (.ins C dx (aG "jump" .aU (aG "repeats" (.ref p8) (aG "notes" (.ref p7) (aG "holds" (.ref p6) (aG "upbeat" .aU (aG "bars" (.ref p4) (aG "staffs" (.ref p3) (aG "instruments" (.ref p2) (aG "players" (.ref p1) []))))))))))=H9 at a9 k9 ⊢;let e1:p1≠a:=λz=>by rw[z,ha] at n1;cases n1
  let g1:=k9 _ _ (k8 _ _ (k7 _ _ (k6 _ _ (k5 _ _ (k4 _ _ (k3 _ _ (k2 _ _ (q1) e1) e1) e1) e1) e1) e1) e1) e1;let e2:p2≠a:=λz=>by rw[z,a1] at n2;cases n2
  let g2:=k9 _ _ (k8 _ _ (k7 _ _ (k6 _ _ (k5 _ _ (k4 _ _ (k3 _ _ (q2) e2) e2) e2) e2) e2) e2) e2;let e3:p3≠a:=λz=>by rw[z,a2] at n3;cases n3
  let g3:=k9 _ _ (k8 _ _ (k7 _ _ (k6 _ _ (k5 _ _ (k4 _ _ (q3) e3) e3) e3) e3) e3) e3;let e4:p4≠a:=λz=>by rw[z,a3] at n4;cases n4
  let g4:=k9 _ _ (k8 _ _ (k7 _ _ (k6 _ _ (k5 _ _ (q4) e4) e4) e4) e4) e4;let e6:p6≠a:=λz=>by rw[z,a5] at n6;cases n6
  let g6:=k9 _ _ (k8 _ _ (k7 _ _ (q6) e6) e6) e6;let e7:p7≠a:=λz=>by rw[z,a6] at n7;cases n7
  let g7:=k9 _ _ (k8 _ _ (q7) e7) e7;let e8:p8≠a:=λz=>by rw[z,a7] at n8;cases n8
  let g8:=k9 _ _ (q8) e8;let kH:∀b v,H b=some v->b≠a->H9 b=some v:=λb v hb ne=>k9 _ _ (k8 _ _ (k7 _ _ (k6 _ _ (k5 _ _ (k4 _ _ (k3 _ _ (k2 _ _ (k1 _ _ hb ne) ne) ne) ne) ne) ne) ne) ne) ne;let f1:H p1=none:=n1;let f2:H p2=none:=by
   cases q:H p2 with
   | none=>rfl
   | some v=>let z:=q;rw[show H1 p2=some v from k1 _ _ z e2] at n2;cases n2
  let f3:H p3=none:=by
   cases q:H p3 with
   | none=>rfl
   | some v=>let z:=q;rw[show H2 p3=some v from k2 _ _ (k1 _ _ z e3) e3] at n3;cases n3
  let f4:H p4=none:=by
   cases q:H p4 with
   | none=>rfl
   | some v=>let z:=q;rw[show H3 p4=some v from k3 _ _ (k2 _ _ (k1 _ _ z e4) e4) e4] at n4;cases n4
  let f6:H p6=none:=by
   cases q:H p6 with
   | none=>rfl
   | some v=>let z:=q;rw[show H5 p6=some v from k5 _ _ (k4 _ _ (k3 _ _ (k2 _ _ (k1 _ _ z e6) e6) e6) e6) e6] at n6;cases n6
  let f7:H p7=none:=by
   cases q:H p7 with
   | none=>rfl
   | some v=>let z:=q;rw[show H6 p7=some v from k6 _ _ (k5 _ _ (k4 _ _ (k3 _ _ (k2 _ _ (k1 _ _ z e7) e7) e7) e7) e7) e7] at n7;cases n7
  let f8:H p8=none:=by
   cases q:H p8 with
   | none=>rfl
   | some v=>let z:=q;rw[show H7 p8=some v from k7 _ _ (k6 _ _ (k5 _ _ (k4 _ _ (k3 _ _ (k2 _ _ (k1 _ _ z e8) e8) e8) e8) e8) e8) e8] at n8;cases n8
  let d14:p1≠p4:=λz=>by let h:=k3 _ _ (k2 _ _ (q1) e1) e1;rw[z,n4] at h;cases h
  let d18:p1≠p8:=λz=>by let h:=k7 _ _ (k6 _ _ (k5 _ _ (k4 _ _ (k3 _ _ (k2 _ _ (q1) e1) e1) e1) e1) e1) e1;rw[z,n8] at h;cases h
  let d48:p4≠p8:=λz=>by let h:=k7 _ _ (k6 _ _ (k5 _ _ (q4) e4) e4) e4;rw[z,n8] at h;cases h
  let d23:p2≠p3:=λz=>by let h:=q2;rw[z,n3] at h;cases h
  let d26:p2≠p6:=λz=>by let h:=k5 _ _ (k4 _ _ (k3 _ _ (q2) e2) e2) e2;rw[z,n6] at h;cases h
  let d36:p3≠p6:=λz=>by let h:=k5 _ _ (k4 _ _ (q3) e3) e3;rw[z,n6] at h;cases h
  refine kk H9 {dx,p1,p2,p3,p4,p6,p7,p8,[],[]} {{.aU,.aU,a9,cM,cM},g1,{[],g2,eM},{[],g3,eM},{[],g4,eM},{(g6),rfl},{(g7),rfl},{[],g8,eM},?_,?_} kH λx hx=>?_
  ·show [p1,p4,p8].Nodup
   simp[d14,d18,d48]
  ·show [p2,p3,p6].Nodup
   simp[d23,d26,d36]
  ·let hx':x∈[a,p1,p2,p3,p4,p6,p7,p8]:=by simpa[own] using hx
   simp only[zA,zB,yL] at hx';rcases hx' with rfl | rfl | rfl | rfl | rfl | rfl | rfl | rfl
   ·exact .inl rfl
   ·exact .inr f1
   ·exact .inr f2
   ·exact .inr f3
   ·exact .inr f4
   ·exact .inr f6
   ·exact .inr f7
   ·exact .inr f8
def Runs:cF->List Told->cF->Prop
 | S,[],S'=>S=S'
 | S,t::r,S'=>fault S t=none/\Dx S t/\um S/\pI S/\Runs (bJ S t) r S'
def uD (t:Told):∃ws,wordsOf t=jS t::ws:=by cases t <;> exact{_,rfl}
inductive Out where
 | ok (S:cF)
 | bad (i:Nat) (w:Str)
inductive RX:cF->Nat->List Str->Out->Prop where
 | nil {S:cF} {i:Nat}:RX S i [] (.ok S)
 | blank {S:cF} {i:Nat} {r:Str} {rs:List Str} {out:Out}:⇑r<=1000000->words r=[]->RX S (i+1) rs out->RX S i (r::rs) out
 | row {S:cF} {i:Nat} {r:Str} {t:Told} {rs:List Str} {out:Out}:⇑r<=1000000->words r=wordsOf t->NL t->⇑(wordsOf t)<=1000000->(∀y∈wordsOf t,⇑y<=600)->fault S t=none->Dx S t->um S->pI S->RX (bJ S t) (i+1) rs out->RX S i (r::rs) out
 | bad {S:cF} {i:Nat} {r x w:Str} {ws rs:List Str}:⇑r<=1000000->words r=x::ws->⇑ws<=999999->(∀y∈x::ws,⇑y<=600)->(∀t,gC (x::ws)=some t->x=jS t/\Dx S t)->Ez S (gC (x::ws))=some w->RX S i (r::rs) (.bad i w)
inductive nB (C:wV) (vs:List V) (H:Hp) (Q:VK) (E:XK):Prop
 | mk (a:wV) (x y:V) (_:vs=[.ref a,x,y]) (_:H a=some (vx C none a)) (_:∀dx H',H dx=none->dx≠a->H' a=some (vx C (some dx) a)->H' dx=some (XD dx [("place",x),("word",y)])->(∀b,b≠a->b≠dx->H' b=H b)->Q .aU H')
def nF:cQ ["self","place","word"] ["self","place","word"] (aC ji):=Nb
def nV:bL P w K mg base uq 1 T.fu T.jx ["self","place","word"] (nB T.aS):=by
 refine T.lJ.F.JY nF λ_ _ _ _ H vs Q E hr h=>?_
 ·let⟨a,x,y,rfl,ha,kk⟩:=h
  refine{_,ae (Ot (pv 0) (pv 1) rfl) (ai (Oq (pv 0) (pv 2) rfl)),?_};refine{_,rfl,_,rfl,a,_,_,rfl,ha,T.cb.set,T.xf.np,λdx nd na=>?_};refine{_,rfl,_,rfl,a,_,_,dx,_,rfl,aA,by rw[ao na,aA],T.cb.set,T.xf.nw,(by show 1<1000;decide),?_};exact kk dx _ nd na (by rw[ao (Ne.symm na),aA]) (by rw[aA];rfl) λb n1 n2=>by rw[ao n2,ao n1,ao n2]
inductive gX (C B:wV) (vs:List V) (H:Hp) (Q:VK) (E:XK):Prop
 | mk (t:Str) (out:Out) (_:vs=[.str t]) (_:⇑t+2<=sizeLine) (_:RX {} 0 (Txt.split t "\n") out) (_:(∀S,out=.ok S->∀a o H',bo C H' a S o->au H H'->(∀x∈own a o,H x=none)->Q (.ref a) H')) (_:∀i w,out=.bad i w->∀dx H',au H H'->H' dx=some (XD dx [("place",.int (i:Nat)),("word",.str w)])->E (.ref B) (some dx) H')
theorem Gj {H0 H H':Hp} {v:V} (s:au H H'):∀{t:Option Told},eQ H0 H v t->eQ H0 H' v t
 | none,h=>h
 | some (.aZ _),h=>h
 | some (.cO _ _ _),h=>Is.mono s h
 | some (.cz _ _),h=>Is.mono s h
 | some (.bar _),h=>Is.mono s h
 | some (.aE _),h=>Is.mono s h
 | some (.holds _ _ _),h=>Is.mono s h
 | some (.av _ _ _),⟨a,q,vs,h1,h2,h3,h4,h5⟩=>{a,q,vs,h1,s _ _ h2,s _ _ h3,h4.mono s,h5}
 | some (.rep _),h=>Is.mono s h
 | some (.cD _),h=>Is.mono s h
def b7:cQ ["text","score","place","row","words","told","word"] ["text"] (aC mx):=Nb
def eU (B:Dk P w K T) (F:Cf K T.de):bL P w K mg base (J2 P w) 8 T.m9 T.mZ ["text"] (gX T.de T.aS):=by
 refine T.bA.F.QR b7 (λvs H Q E h=>?_) (λcdv A' outer s H vs Q E hr h=>?_)
 ·let⟨_,_,rfl,_⟩:=h;rfl
 ·let⟨t,out,rfl,tl,rt,kk,kx⟩:=h
  let sl:=yt;refine{_,(ae (ck 1 b7.nd (IE T.Lk (tG T F) (hr.mono ∅) rfl T.Kb T.sr.b .nil uK))
   (ae (hJ PassesOwn.leaving rfl (Ae (by rfl) T.j0 (aa (cV yx yB yA gh (pv 0) (aa ay af)) af)) (jU (n:=2) rfl (bQ (FA 2 b7.nd) (bQ (FA 3 b7.nd) gE)))
   (ae (ck 4 b7.nd (bx (Cd T) hr T.words_of (aa (pv 3) af)))
    (ai (ax (ptr gf (c5 aq T.aP (aa (pv 4) af)) ah)
    (ae (ck 5 b7.nd (bx (Cg T B) hr T.qF (aa (pv 4) af)))
     (ae (ck 6 b7.nd (bx (Cm T B F) hr T.rm (aa (pv 1) (aa (eF (pv 4) ah) (aa (pv 5) af)))))
     (ae (ax (aY (iX (pv 6)))
     (ai (GA (ID T.cb (nV T) (hr.mono ∅) rfl T.pY T.lJ.b uK (aa (pv 2) (aa (pv 6) af)))))
     ak)
     (ai (eT (bx (Ek T F) hr T.Bf (aa (pv 1) (aa (eF (pv 4) ah) (aa (pv 5) af)))))))))
    ak))))
   (ai (aj (pv 1))))),?_}
  ac_rfl;intro a dx na ndx ne;refine{a,dx,rfl,aA,λH1 o sc1 k1 fr1=>{rfl,?_}};let s1:au H H1:=λb u hb=>k1 b u (by rw[ao (λz=>by rw[z,na] at hb;cases hb),ao (λz=>by rw[z,ndx] at hb;cases hb)];exact hb) (λz=>by rw[z,na] at hb;cases hb);let f1:∀x∈own a o,H x=none:=λx hx=>by
   rcases fr1 x hx with z | z
   ·rw[z];exact na
   ·cases q:H x with
    | none=>rfl
    | some u=>
     rw[ao (λy=>by rw[y,na] at q;cases q),ao (λy=>by rw[y,ndx] at q;cases q),q] at z;cases z
  exists tl,λl nl=>?_;let s2:au H1 (upd H1 l (.lst ((Txt.split t "\n").map V.str))):=cj nl;let h2:upd H1 l (.lst ((Txt.split t "\n").map V.str)) l=some (.lst ((Txt.split t "\n").map V.str)):=aA;generalize upd H1 l (.lst ((Txt.split t "\n").map V.str))=H2 at s2 h2 ⊢;generalize hrows:Txt.split t "\n"= rows at rt h2;exists l,_,rfl,aD.of h2,?_;refine rk (K:=K) (a:=l) (xs:=rows.map V.str) (λi U H'=>∃S' o',RX S' i (rows.drop i) out/\bo T.de H' a S' o'/\H' l=some (.lst (rows.map V.str))/\l∉own a o'/\au H H'/\(∀x∈own a o',H x=none)/\∃u2 u3 u4 u5 u6,U=[some (.str t),some (.ref a),u2,u3,u4,u5,u6])
   {{},o,rt,sc1.mono s2,h2,Af sc1 nl,s1.trans s2,f1,none,none,none,none,none,rfl} (λi U H' _ h=>by let⟨_,_,_,_,h,_⟩:=h;exact aD.of h) ?_ ?_
  ·intro i x U H3 p H4 hx hh s34 hp4
   refine iM λN kN0 kR0 _ _=>?_;let⟨S',o',rt',sc3,hl3,nl3,s3,f3,u2,u3,u4,u5,u6,rfl⟩:=hh;rw[zH] at hx;cases qr:rows[i]? with
   | none=>rw[qr] at hx;cases hx
   | some r=>
   rw[qr] at hx;simp only[y6,xt] at hx;subst hx;let ed:rows.drop i=r::rows.drop (i+1):=by
    let hi:=(zt.mp qr).1;rw[List.drop_eq_getElem_cons hi];have:=(zt.mp qr).2;rw[this]
   rw[ed] at rt';let s4:=s3.trans s34;let sc4:=sc3.mono s34;cases rt' with
   | blank rl rw0 rt''=>
    refine{p,_,rfl,cx.of hp4,rfl,?_};refine{_,_,rfl,{_,_,rfl,{rfl,?_}}};exists rl,λp5 H5 s5 h5=>?_;rw[rw0] at h5;exists p5,_,rfl,.inl (aD.of h5),?_;left;let s05:=s4.trans s5;exact{S',o',rt'',sc4.mono s5,s5 _ _ (s34 _ _ hl3),nl3,s05,f3,_,_,_,_,_,rfl}
   | @row _ _ _ t' _ _ rl rw0 tok wl ws6 fn fit hd sz rt''=>
    let⟨ws,ew⟩:=uD t';refine{p,_,rfl,cx.of hp4,rfl,?_};refine{_,_,rfl,{_,_,rfl,{rfl,?_}}};exists rl,λp5 H5 s5 h5=>?_;rw[rw0] at h5;let h5':=h5;rw[ew] at h5;let sc5:=sc4.mono s5;let hl5:=s5 _ _ (s34 _ _ hl3);exists p5,_,rfl,.inl (aD.of h5),?_;rw[za,zo];left;refine bF (zd ()) ?_;left;let wl':⇑ws<=999999:=by rw[ew,zo] at wl;ext
    refine{p5,jS t',ws,rfl,aD.of h5,wl',by rw[<-ew];exact ws6,λv H6 s6 tv=>?_};rw[<-ew,qI tok] at tv;let sc6:=sc5.mono s6;exists p5,_,0,_,rfl,rfl,aD.of (s6 _ _ h5),aQ (j:=0) rfl,?_;exists a,S',o',jS t',v,H5,some t',rfl,sc6,tv,λt2 e2=>by cases e2;exact{(rfl),fit},λH7 s7=>?_
    rw[show Ez S' (some t')=fault S' t' from rfl,fn];exists p5,_,0,_,rfl,rfl,aD.of (s7 _ _ (s6 _ _ h5)),aQ (j:=0) rfl,?_;exists a,S',o',v,H5,t',rfl,sc5,s6.trans s7,Gj s7 tv,fn,hd,sz,λH8 o8 sc8 el8 fr8=>?_;let s07:=((s4.trans s5).trans s6).trans s7;left;refine{bJ S' t',o8,rt'',sc8,el8 _ _ nl3 (s7 _ _ (s6 _ _ hl5)),λz=>?_,λb u hb=>el8 _ _ (λz=>by rw[f3 b z] at hb;cases hb) (s07 _ _ hb),λx hx=>?_,_,_,_,_,_,rfl}
    ·rcases fr8 l z with y | y
     ·exact nl3 y
     ·rw[hl5] at y;cases y
    ·rcases fr8 x hx with y | y
     ·exact f3 x y
     ·exact(s4.trans s5).back y
   | @bad _ _ _ x w' ws _ rl rw0 wl ws6 fit fn=>
    refine{p,_,rfl,cx.of hp4,rfl,?_};refine{_,_,rfl,{_,_,rfl,{rfl,?_}}};exists rl,λp5 H5 s5 h5=>?_;rw[rw0] at h5;let sc5:=sc4.mono s5;exists p5,_,rfl,.inl (aD.of h5),?_;rw[za,zo];left;refine bF (zd ()) ?_;exists p5,x,ws,rfl,aD.of h5,wl,ws6,λv H6 s6 tv=>?_;let sc6:=sc5.mono s6;exists p5,_,0,_,rfl,rfl,aD.of (s6 _ _ h5),aQ (j:=0) rfl,?_;exists a,S',o',x,v,H5,_,rfl,sc6,tv,fit,λH7 s7=>?_;rw[fn];left;let s07:=((s4.trans s5).trans s6).trans s7;refine{by show 2<=sizeLine;ext,λy ny=>?_};refine{y,_,_,rfl,aA,λdx H8 nd na h8 hd8 k8=>{rfl,?_}};refine{y,_,dx,rfl,h8,?_,{_,_,T.cb},?_}
    ·exact s07.back ny
    ·let nd7:H7 dx=none:=by rw[<-nd,ao na]
     refine kx _ _ rfl dx _ (λb u hb=>?_) (by rw[lS na];exact hd8);let hb7:=s07 _ _ hb;let n1:b≠y:=λz=>by rw[z,ny] at hb7;cases hb7
     let n2:b≠dx:=λz=>by rw[z,nd7] at hb7;cases hb7
     rw[lS n1,k8 b n1 n2,ao n1];exact hb7
  ·rintro U H3 ⟨S',o',rt',sc3,hl3,nl3,s3,f3,u2,u3,u4,u5,u6,rfl⟩
   rw[za,List.drop_length] at rt';cases rt';change kk _ rfl a o' H3 sc3 s3 f3
theorem Runs.app:∀{a b:List Told} {S S1 S2:cF},Runs S a S1->Runs S1 b S2->Runs S (a++b) S2
 | [],_,_,_,_,h,k=>by
  let e:_=_:=h;subst e;exact k
 | _::_,_,_,_,_,⟨h1,h2,h3,h4,h5⟩,k=>{h1,h2,h3,h4,Runs.app h5 k}
theorem mD:∀{l:List Str} {S:cF},(S.players++l).Nodup->⇑(S.players++l)<=12->um S->pI S->Runs S (l.map .aZ) {S with players:=S.players++l}
 | [],S,_,_,_,_=>by
  show S=_;rw[zQ]
 | n::r,S,nd,hl,hd,sz=>by
  let nd':=nd;rw[zP] at nd';rw[ze,zo] at hl;refine{?_,trivial,hd,sz,?_}
  ·unfold fault
   dsimp only;rw[yE (λz=>nd'.2.2 n z n zk rfl),yE ()]
  ·let ih:=mD (l:=r) (S:=bJ S (.aZ n)) (by show(S.players++[n]++r).Nodup;rw[zC];exact nd) (by show(S.players++[n]++r).length<=12;simp only[ze,zo,y7];ext) hd {by show(S.players++[n]).length<=1000000;rw[ze];simp;ext,sz.2}
   let e:({bJ S (.aZ n) with players:=(bJ S (.aZ n)).players++r}:cF)={S with players:=S.players++n::r}:=by
    show({S with players:=S.players++[n]++r}:cF)=_;rw[zC];rfl
   rw[e] at ih;exact ih
theorem uH:∀{l:List Sc.Lu} {S:cF},⇑(S.bq++l)<=200->um S->pI S->Runs S (l.map .bar) {S with bq:=S.bq++l}
 | [],S,_,_,_=>by
  show S=_;rw[zQ]
 | n::r,S,hl,hd,sz=>by
  rw[ze,zo] at hl;refine{?_,trivial,hd,sz,?_}
  ·unfold fault
   dsimp only;rw[yE ()]
  ·let ih:=uH (l:=r) (S:=bJ S (.bar n)) (by show(S.bq++[n]++r).length<=200;simp only[ze,zo,y7];ext) hd {sz.1,sz.2.1,sz.2.2.1,by show(S.bq++[n]).length<=1000000;rw[ze];simp;ext,sz.2.2.2.2}
   let e:({bJ S (.bar n) with bq:=(bJ S (.bar n)).bq++r}:cF)={S with bq:=S.bq++n::r}:=by
    show({S with bq:=S.bq++[n]++r}:cF)=_;rw[zC];rfl
   rw[e] at ih;exact ih
theorem lR:∀{l:List ((Int×Str)×List Item)} {S:cF},((S.av++l).map (·.1)).Nodup->⇑(S.av++l)<=1000000->Ll S->(∀x∈l,0<=x.1.1/\x.1.1<⇑S.bq/\x.1.2∈S.players/\⇑x.2<=40/\(∀it∈x.2,ow it.2)/\gW x.2=S.len x.1.1.toNat)->um S->pI S->Runs S (l.map λx=>.av x.1.1 x.1.2 x.2) {S with av:=S.av++l}
 | [],S,_,_,_,_,_,_=>by
  show S=_;rw[zQ]
 | n::r,S,nd,hl,lu,hx,hd,sz=>by
  let nd':=nd;rw[zg,zP] at nd';rw[ze,zo] at hl;let⟨b0,b1,pin,il,iok,isum⟩:=hx n zk;refine{?_,{(b0),(),iok,lu},hd,sz,?_}
  ·unfold fault
   dsimp only;rw[yE (λz=>nd'.2.2 n.1 z n.1 (by rw[zf];exact zk) rfl),yE (λz=>z pin),yE,yE (λz=>z isum),yE ()];intro z;apply z;unfold cF.has;simp[b1]
  ·let ih:=lR (l:=r) (S:=bJ S (.av n.1.1 n.1.2 n.2)) (by show((S.av++[n]++r).map _).Nodup;rw[zC];exact nd) (by show(S.av++[n]++r).length<=1000000;simp only[ze,zo,y7];ext) lu (λx h=>hx x (zj _ h)) hd {sz.1,sz.2.1,sz.2.2.1,sz.2.2.2.1,by show(S.av++[n]).length<=1000000;rw[ze];simp;ext,sz.2.2.2.2.2}
   let e:({bJ S (.av n.1.1 n.1.2 n.2) with av:=(bJ S (.av n.1.1 n.1.2 n.2)).av++r}:cF)={S with av:=S.av++n::r}:=by
    show({S with av:=S.av++[n]++r}:cF)=_;rw[zC];rfl
   rw[e] at ih;exact ih
def B0 {S:cF} {u:Int×Int} (hn:S.aE=none) (hb:⇑S.bq≠0) (hs:u.1*(S.bc 0).2<(S.bc 0).1*u.2) (no:S.av=[]) (zu:pH 8999 u) (lu:Ll S) (hd:um S) (sz:pI S):Runs S [.aE u] {S with aE:=some u}:=by
 refine{?_,{zu,lu,by rw[no];exact zZ _},hd,sz,rfl};unfold fault;dsimp only;rw[yE (by rw[hn];simp),yE hb,yE (λz=>z hs),yE (by rw[no];simp)]
def Na {S:cF} {bs:List Int} (h:∀b∈bs,b<(⇑S.bq:Int)):S.has bs=true:=yf.mpr λb hb=>zd (h b hb)
def TD (t:Told):Prop:=NL t/\⇑(Sc.wordsOf t)<=100/\∀w∈Sc.wordsOf t,⇑w<=100
def all_cons {a:Str} {l:List Str} {p:Str->Prop} (ha:p a) (hl:∀x∈l,p x):∀x∈a::l,p x:=by
 intro x hx;rcases zA.mp hx with rfl | hx
 ·exact ha
 ·exact hl x hx
def all_nil {p:Str->Prop}:∀x∈([]:List Str),p x:=λ_ h=>nomatch h
def vC {t:Told} (h:TD t):⇑(rowOf t)<=10100:=by
 let a:=Jh (sep:=" ") h.2.2;let b:⇑(Sc.wordsOf t)*(100+(" ": Str).length)<=100*(100+(" ": Str).length):=x9 h.2.1 (zh _);exact zJ a (zJ b (by show 100*(100+1)<=10100;decide))
theorem Fs:∀{ts:List Told} {S S':cF} {i:Nat} {rest:List Str} {out:Out},Runs S ts S'->(∀t∈ts,TD t)->RX S' (i+⇑ts) rest out->RX S i (ts.map rowOf++rest) out
 | [],S,S',i,rest,out,h,_,k=>by cases(show S=S' from h);exact k
 | t::r,S,S',i,rest,out,⟨fn,fit,hd,sz,h⟩,td,k=>by
  let ht:=td t zk;refine .row (zJ (vC ht) ∅) (uI ht.1) ht.1 (zJ ht.2.1 ∅) (λy hy=>zJ (ht.2.2 y hy) ∅) fn fit hd sz (Fs h (λx hx=>td x (zj _ hx)) ?_);rw[zo] at k;rw[show i+1+⇑r=i+(⇑r+1) by ext];exact k
def w5 {t:Told} {S:cF} {i:Nat} {rest:List Str} {w:Str} (h:TD t) (fit:Dx S t) (f:fault S t=some w):RX S i (rowOf t::rest) (.bad i w):=by
 let⟨ws,ew⟩:=uD t;let e:=qI h.1;let l:=h.2.1;let q:=h.2.2;rw[ew] at e l q;refine .bad (zJ (vC h) ∅) (by rw[uI h.1,ew]) (by rw[zo] at l;ext) (λy hy=>zJ (q y hy) ∅) (λt' e'=>?_) (by rw[e];exact f);rw[e] at e';cases e';exact{(rfl),fit}
def rg {S:cF} (h:S.holds=[]):um S:=by unfold um;rw[h];exact{by simp,by simp,by simp}
def qk {rows:List Str} (ne:rows≠[]) (h:∀r∈rows,10∉r.cps.toList):Txt.split (Str.join "\n" rows) "\n"= rows:=eJ (c:=10) ne h
def B1 {rows:List Str} (h:∀r∈rows,⇑r<=10100) (hl:⇑rows<=1000):(rows.map (λz:Str=>⇑z+("\n": Str).length)).sum<=sizeLine/\(Str.join "\n" rows).length+2<=sizeLine:=by
 let sl:=yt;let a:=vH (sep:="\n") h;let b:⇑rows*(10100+("\n": Str).length)<=1000*(10100+("\n": Str).length):=x9 hl (zh _);let c:1000*(10100+("\n": Str).length)=1000*10101:=rfl;let d:=join_le "\n" rows;exact{(()),()}
noncomputable def rws (ts:List Told):List V:=(ts.map rowOf).map V.str
def Kq (a b:List Told):rws (a++b)=rws a++rws b:=by unfold rws;rw[zg,zg]
def fC (a:List Told):⇑(rws a)=⇑a:=by unfold rws;rw[za,za]
structure Pt (a b:Int) (x:Int×Int):Prop where
 rd:Lm.Rd x
 p0:0<x.1
 p1:x.1<=a
 p2:x.2<=b
def Pt.mono {a b a' b':Int} {x:Int×Int} (h:Pt a b x) (ha:a<=a') (hb:b<=b'):Pt a' b' x:={h.rd,h.p0,Int.le_trans h.p1 ha,Int.le_trans h.p2 hb}
theorem Pt.pos {a b:Int} {x:Int×Int} (h:Pt a b x):0<x.2:=h.rd.pos.2.1
theorem qE {t b:Int} (ht:0<t) (hb:0<b):0<(Lm.red t b).1/\(Lm.red t b).1<=t/\0<(Lm.red t b).2/\(Lm.red t b).2<=b:=by
 let⟨g,g0,e1,_,r3,r4⟩:=Lm.iS (t:=t) hb;refine{?_,Lm.qE (),r3,r4};refine Int.lt_of_not_ge λz=>?_;have:g*(Lm.red t b).1<=0:=Int.mul_nonpos_of_nonneg_of_nonpos () z;ext
theorem Pt.red {t b a c:Int} (ht:0<t) (hb:0<b) (h1:t<=a) (h2:b<=c):Pt a c (Lm.red t b):=by
 let⟨r1,r2,r3,r4⟩:=qE ht hb;exact{Lm.Rd.of () hb,r1,(),()}
def Pt.LO {x:Int×Int} (h:Pt 9999 9999 x):ow x:={h.rd,h.p0,by have:=h.p1;ext,by have:=h.p2;ext}
def Pt.twice {a b:Int} {x:Int×Int} (h:Pt a b x):Pt (2*a) b (Lm.add x x):=by
 let e:Lm.add x x=Lm.red (2*x.1) x.2:=by
  unfold Lm.add;rw[show x.1*x.2+x.1*x.2=x.2*(2*x.1) by rw[xk x.1 x.2,we,Int.two_mul]];exact Lm.w8 h.pos h.pos
 rw[e];have:=h.p0;have:=h.p1;exact Pt.red () h.pos () h.p2
def OC (b:Bool) (xs:List V):HO:=match b with | true=>.tup xs | false=>.lst xs
def Al (H:Hp):Nat->V->V->Prop
 | 0,_,_=>False
 | d+1,x,y=>(∃i,x=.int i/\y=.int i)\/(∃t,x=.str t/\y=.str t)\/∃p q b xs ys,x=.ref p/\y=.ref q/\H p=some (OC b xs)/\H q=some (OC b ys)/\⇑xs=⇑ys/\⇑xs<=1000000/\∀z∈xs.zip ys,Al H d z.1 z.2
theorem Al.mono {H H':Hp} (s:au H H'):∀{d:Nat} {x y:V},Al H d x y->Al H' d x y
 | 0,_,_,h=>h
 | d+1,_,_,.inl h=>.inl h
 | d+1,_,_,.inr (.inl h)=>.inr (.inl h)
 | d+1,_,_,.inr (.inr {(p),q,b,xs,ys,e1,e2,h1,h2,h3,h4,h5})=>.inr (.inr {p,q,b,xs,ys,e1,e2,s _ _ h1,s _ _ h2,h3,h4,λz hz=>(h5 z hz).mono s})
def jI {H:Hp} {p:wV} {b:Bool} {xs:List V} (h:H p=some (OC b xs)):tag H (.ref p)=some (if b=true then Ty.tup else Ty.lst):=by
 cases b
 ·exact Kf h
 ·exact Fj h
def oA {K:yr} {H:Hp} {p:wV} {b:Bool} {xs:List V} (h:H p=some (OC b xs)):Hu b K H p xs:=by
 cases b
 ·exact aD.of h
 ·exact cx.of h
def LA {K:yr} {H:Hp} {p:wV} {b:Bool} {xs:List V} (h:H p=some (OC b xs)):aD K H p xs\/cx K H p xs:=by
 cases b
 ·exact .inl (aD.of h)
 ·exact .inr (cx.of h)
inductive dq (d:Nat) (vs:List V) (H:Hp) (Q:VK) (E:XK):Prop
 | mk (x y:V) (_:vs=[x,y]) (_:Al H d x y) (_:∀H',au H H'->Q (.bl true) H')
def dz {k d:Nat} (G__law_alike:bL P w K mg base uq k T.fQ T.fK ["_law_found","_law_due"] (dq d)):bL P w K mg base uq (k+1) T.fQ T.fK ["_law_found","_law_due"] (dq (d+1)):=by
 nomatch T.eP,["_law_found","_law_due"]
 let⟨x,y,rfl,al,kk⟩:=h;let sl:=yt;refine{_,(ae (ax (PW.pt (dh (bf (fj .bl (by decide +kernel) (pv 1) T.aO T.Aw)) (cu (bf (fj .bl (by decide +kernel) (pv 0) T.aO T.Aw)))))
  (ai (aj (gd (fj .bl (by decide +kernel) (pv 1) T.aO T.Aw) (gd (fj .bl (by decide +kernel) (pv 0) T.aO T.Aw) (hU (bT bE (pv 0) (pv 1) (dj _)))))))
  ak)
  (ae (ax (bf (fj .int (by decide +kernel) (pv 1) T.aO T.FJ))
  (ai (aj (gd (fj .int (by decide +kernel) (pv 0) T.aO T.FJ) (hU (bT bE (pv 0) (pv 1) (dj _))))))
  ak)
  (ae (ax (bf (fj .str (by decide +kernel) (pv 1) T.aO T.oK))
  (ai (aj (gd (fj .str (by decide +kernel) (pv 0) T.aO T.oK) (hU (bT bE (pv 0) (pv 1) (dj _))))))
  ak)
  (ae (ax (PW.pt (dh (ptr fB (fj .tup (by decide +kernel) (pv 1) T.aO T.kF) (fj .tup (by decide +kernel) (pv 0) T.aO T.kF)) (cu (ptr fB (fj .lst (by decide +kernel) (pv 1) T.aO T.Av) (fj .lst (by decide +kernel) (pv 0) T.aO T.Av)))))
  (ai (aj fe))
  ak)
  (ai (aj (gd (bT bE (c5 aq T.aP (ag (pv 0) af)) (c5 aq T.aP (ag (pv 1) af)) (dj _)) (hU (c5 (iH rfl) T.Cy (ag (qL (ts:=["_law_one","_law_other"]) (ys:=[]) (js:=[]) (g:=(GS K 2 (ke (bH 0) (ke (bH 1) GU)))) (te:=(cy (dq d) [] E0 (aF (aK 0) (aF (aK 1) bK)))) (IB (by rfl) T.LM (ag (pv 0) (ag (pv 1) af))) (jU (n:=2) rfl (bQ (lE 0) (bQ (lE 1) gE))) aX (mK G__law_alike hr rfl T.eP.g T.eP.F.kp T.eP.b .nil uK (ag (pv 0) (ag (pv 1) af)))) af)))))))))),?_}
 ac_rfl;rcases al with⟨i,rfl,rfl⟩ | ⟨i,rfl,rfl⟩ | ⟨p,q,b,xs,ys,rfl,rfl,hp,hq,hl,hz,ha⟩
 ·left
  rw[zd rfl];exact kk _ (au.refl _)
 ·left
  rw[zd rfl];exact kk _ (au.refl _)
 ·let t1:∀c,c≠Ty.tup->c≠Ty.lst->(if b=true then Ty.tup else Ty.lst).sub c=false:=λc n1 n2=>by cases b <;> cases c <;> first | rfl | exact absurd rfl n1 | exact absurd rfl n2
  exists _,jI hq,?_;left;refine bG (t1 _ (λz=>nomatch z) (λz=>nomatch z)) ?_;exists _,jI hp,?_;left;refine bG (t1 _ (λz=>nomatch z) (λz=>nomatch z)) ?_;exists _,jI hq,?_;left;refine bG (t1 _ (λz=>nomatch z) (λz=>nomatch z)) ?_;exists _,jI hq,?_;left;refine bG (t1 _ (λz=>nomatch z) (λz=>nomatch z)) ?_;exists _,jI hq,?_;exists _,jI hp,?_;left;refine bG (by rw[zd rfl];rfl) ?_;exists _,jI hq,?_;exists _,jI hp,?_;left;refine bG (by rw[zd rfl];rfl) ?_;exists p,xs,rfl,LA hp,?_;exists q,ys,rfl,LA hq,?_;rw[hl];left;refine bF (zd rfl) ?_;exists b,b,p,q,xs,ys,rfl,oA hp,oA hq,?_;let zl:⇑(xs.zip ys)=⇑xs:=by rw[xi];ext
  refine ma (ws:=xs.zip ys) (λz x H'=>∃a,x=.ref a/\H' a=some (.tup [z.1,z.2])) (λ_=>.bl true) (λU=>∃u v,U=[u,v]) () {(none),none,rfl} ?_ ?_ ?_ ?_ ?_
  ·intro i H5 hi s5
   let i1:i<⇑xs:=()
   let i2:i<⇑ys:=()
   exact{xs,ys,xs[i],ys[i],oA (s5 _ _ hp),oA (s5 _ _ hq),zb i1,zb i2}
  ·intro H5 s5
   exact{xs,ys,oA (s5 _ _ hp),oA (s5 _ _ hq),Or.inl ()}
  ·rintro i x H5 H6 hi s5 ⟨a,u,v,ha',rfl,rfl,hu',hv'⟩
   let i1:i<⇑xs:=()
   let i2:i<⇑ys:=()
   let gu:=hu' xs (oA (s5 _ _ hp));let gv:=hv' ys (oA (s5 _ _ hq));rw[zb i1] at gu;rw[zb i2] at gv;cases gu;cases gv;exact{cj ha',a,rfl,by rw[aA,List.getElem_zip]}
  ·rintro z x U H5 R hz' s5 ⟨a,rfl,ha'⟩ ⟨_,_,rfl⟩ rr
   refine{a,_,rfl,cx.of ha',rfl,?_};refine{_,_,rfl,_,_,rfl,rfl,?_};exists _,_,rfl,(ha z hz').mono s5,λH6 s6=>?_;exact rr _ _ _ s6 rfl {_,_,rfl}
  ·intro D5 vs5 H5 s5 hD5 il5
   let e5:(xs.zip ys).map (λ_=>Dt.bl true)=(List.replicate ⇑xs true).map Dt.bl:=by rw[List.map_const',zl,List.map_replicate]
   rw[e5] at il5;rw[i6 il5] at hD5;refine{D5,List.replicate ⇑xs true,rfl,aD.of hD5,?_};rw[show(List.replicate ⇑xs true).all id=true from yf.mpr λx hx=>List.eq_of_mem_replicate hx];exact kk _ s5
def jY {k:Nat}:bL P w K mg base uq k T.fQ T.fK ["_law_found","_law_due"] (dq 0):=
 {λvs H Q E h=>by let⟨_,_,_,z,_⟩:=h;exact z.elim,λT outer s H args us vs Q E _ _ _ _ h=>by let⟨_,_,_,z,_⟩:=h;exact z.elim}
inductive gZ (vs:List V) (H:Hp) (Q:VK) (E:XK):Prop
 | mk (t w:Str) (i:Nat) (_:vs=[.str t,.int (i:Nat),.str w]) (_:⇑t+2<=sizeLine) (_:RX {} 0 (Txt.split t "\n") (.bad i w)) (_:∀H',au H H'->Q (.bl true) H')
def dy (B:Dk P w K T) (F:Cf K T.de):cG P w base 9 T.dM gZ:=by
 nomatch T.dM,["_law_text","_law_place","_law_word","_law_caught","e"]
 let⟨t,w',i,rfl,tl,rx,kk⟩:=h;let sl:=yt;refine{_,(ae (ck 3 qN aH)
  (ae (Kx (eU T B F) (hr.mono ∅) rfl T.bA.g T.bA.F.kp T.bA.b (ag (pv 0) af) rfl qN (j:=4) rfl rfl rfl T.AK T.cb.sup T.tI T.Bx rfl rfl rfl (λe=>(ai (ck 3 qN (pv 4)))))
  (ae (ax (PW.pt (dh (cv (bf (c5 vj T.aO (ag (pv 3) (ag (aN (v:=.ref T.aS) (by rfl) T.pY rfl) af))))) (cu (cv (bf (c5 vj T.aO (ag (pv 3) (ag (FF (v:=.ty "ValueError") (by rfl) T.Ax (by decide +kernel) rfl) af))))))))
  (ai (aj fe))
  ak)
  (ae (ax (bf (c5 EW T.aO (ag (pv 3) (ag (bB (ag (aN (v:=.ref T.kO) (by rfl) T.Ge rfl) (ag (aN (v:=.ref T.pS) (by rfl) T.Kc rfl) (ag (aN (v:=.ref T.cY) (by rfl) T.DK rfl) (ag (aN (v:=.ref T.ja) (by rfl) T.DJ rfl) (ag (aN (v:=.ref T.kM) (by rfl) T.Gd rfl) af)))))) af))))
  (ai (aj fe))
  ak)
  (ai (aj (bx (dz T (dz T (jY T (k:=0)))) hr T.eP (ag (bg (ag (LK (pv 3) rfl) (ag (LK (pv 3) rfl) af))) (ag (bg (ag (pv 1) (ag (pv 2) af))) af))))))))),?_}
 ac_rfl;exists t,.bad i w',rfl,tl,rx,(λS z=>nomatch z),λi2 w2 z dx H1 s1 hd=>?_;cases z;refine{rfl,λa na=>?_};let s2:au H1 (upd H1 a (Bv T.aS (some dx) a)):=cj na;let ha:upd H1 a (Bv T.aS (some dx) a) a=some (Bv T.aS (some dx) a):=aA;generalize upd H1 a (Bv T.aS (some dx) a)=H2 at s2 ha ⊢;let hd2:=s2 _ _ hd;let s02:=s1.trans s2;exists a,_,_,_,_,true,rfl,ha,T.cb.cls,.inl {_,rfl,rfl},Jf,?_;exists a,_,_,_,_,true,rfl,ha,T.cb.cls,.inr {_,rfl,rfl},Je T.xf.ve (by decide +kernel),?_;left
 skip
 refine{(by show 5<=sizeLine;ext),?_}
 intros p np s3 hp H3
 let s03:=s02.trans s3;refine{a,_,p,_,[T.kO,T.pS,T.cY,T.ja,T.kM],false,rfl,s3 _ _ ha,T.cb.cls,hp,Jg T.xf T.F9 T.J7 T.DG T.DF T.F8,?_};left;let ha3:=s3 _ _ ha;let hd3:=s3 _ _ hd2;refine{a,_,dx,_,_,rfl,ha3,hd3,T.cb.cls,T.xf.hd,T.xf.np,rfl,?_};left;let hd3':=hd3;refine{a,_,dx,_,_,rfl,ha3,hd3,T.cb.cls,T.xf.hd,T.xf.nw,rfl,?_};left
 skip
 refine{(by show 2<=sizeLine;ext),?_}
 intros p4 n4 s4 h4 H4
 left
 skip
 refine{(by show 2<=sizeLine;ext),?_}
 intros p5 n5 s5 h5 H5
 left
 skip
 refine{_,_,rfl,.inr (.inr {p4,p5,false,_,_,rfl,rfl,s5 _ _ h4,h5,rfl,(by show 2<=1000000;decide),λz hz=>?_}),λH6 s6=>kk _ (((s03.trans s4).trans s5).trans s6)};rcases zA.mp hz with rfl | hz
 ·exact .inl {_,rfl,rfl}
 ·rw[zv.mp hz];exact .inr (.inl {_,rfl,rfl})
noncomputable def jL (ps:List (Int×Int)):Int×Int:=ps.foldl Lm.add (0,1)
def nv (l:List (Int×Int)) (x:Int×Int):jL (l++[x])=Lm.add (jL l) x:=by unfold jL;rw[zS];rfl
def Mr (l:List Item):gW l=jL (l.map (·.2)):=by unfold gW jL;rw[List.foldl_map]
inductive oF (K:yr) (vs:List V) (H:Hp) (Q:VK) (E:XK):Prop
 | mk (D:wV) (us:List V) (ps:List (Int×Int)) (_:vs=[.ref D]) (_:aD K H D us) (_:ar H (ps.map dL) us) (_:⇑ps<=500) (_:(∀x∈ps,ow x)) (_:∀r H',au H H'->H' r=some (fw (jL ps))->Q (.ref r) H')
def gH:cG P w base 3 T.iL (oF K):=by
 nomatch T.iL,["_law_lengths","_law_total","_law_top","_law_bottom"]
 let⟨D,us,ps,rfl,hD,il,pl,aT,kk⟩:=h;let sl:=yt;let ul:=aI il;refine{_,(ae (ck 1 qN (bB (ag ah (ag ah af))))
  (ae (hJ yG rfl (bS (pv 0)) (jU (n:=2) rfl (bQ (FA 2 qN) (bQ (FA 3 qN) gE)))
  (ai (ck 1 qN (bx (cw T) hr T.cA (ag (az cL (az fk (b4 (pv 1) ah) (pv 3)) (az fk (pv 2) (b4 (pv 1) ah))) (ag (az fk (b4 (pv 1) ah) (pv 3)) af))))))
  (ai (aj (pv 1))))),?_}
 ac_rfl;exists di,?_;intros t0 H1 s1 h1;exists{_,s1.seq hD},?_;refine kg (K:=K) (a:=D) (xs:=us) (λi U H'=>au H H'/\∃q w2 w3,U=[some (.ref D),some (.ref q),w2,w3]/\H' q=some (fw (jL (ps.take i)))/\Lm.Rd (jL (ps.take i))/\pH (15*i+1) (jL (ps.take i))) {s1,t0,none,none,rfl,h1,Lm.Rd.zero,(show pH 1 (0,1) from{bp ∅ ∅,bp ∅ ∅})} (λi U H' _ h=>h.1.seq hD) ?_ ?_
 ·intro i x U H2 hx hh
  refine iM λN kN0 kR0 _ _=>?_;let⟨s2,q,w2,w3,rfl,hq,rq,zq⟩:=hh;let⟨z,hz,iz⟩:=cX il hx;let hi:i<⇑ps:=(zt.mp hz).1;let zok:=aT z (zy hz);let⟨ok1,JY,P9,ok4⟩:=zok;let zi:pH 14 z:={bp () (),bp (by have:=ok1.pos;ext) ()}
  let zp:=ok1.pos.2.1;cases dF (o:=some z) (iz.mono s2) with
  | ref h8=>
   let e:=gw hz;let ad:=pH.add rq ok1 zq zi;let rp:=rq.pos;refine{_,_,rfl,cx.of h8,rfl,?_};refine{_,_,rfl,{_,_,rfl,{rfl,?_}}};exists .inr {(()),()},?_;exists .inl {(()),()},?_;exists .inr {(()),()},?_;let n1:0<=(jL (ps.take i)).1*z.2+z.1*(jL (ps.take i)).2:=Int.add_nonneg (xK rp.1 ()) (xK () ());let n2:0<(jL (ps.take i)).2*z.2:=xh rp.2.1 zp;refine{_,_,rfl,n1,n2,(Sz.mul zq.2 zi.2).mono (),λr3 H3 s3 h3=>?_};left;refine{s2.trans s3,r3,_,_,rfl,?_,?_,?_}
   ·rw[e,nv];exact h3
   ·rw[e,nv];exact rq.add ok1
   ·rw[e,nv];exact{ad.1.mono (),ad.2.mono ()}
 ·rintro U H2 ⟨s2,q,w2,w3,rfl,hq,_,_⟩
  rw[ul,zK] at hq;change kk _ _ s2 hq
inductive kT (vs:List V) (H:Hp) (Q:VK) (E:XK):Prop
 | mk (q:wV) (x:Int×Int) (_:vs=[.ref q]) (_:H q=some (fw x)) (_:0<=x.1) (_:x.1<10000) (_:0<x.2) (_:x.2<10000) (_:Q (.str (cR x)) H)
def cp:cG P w base 1 T.bX kT:=by
 nomatch T.bX,["_law_length"]
 let⟨q,x,rfl,hq,x1,x2,x3,x4,kk⟩:=h;let sl:=yt;let a:=cI (n:=x.1) () x2;let b:=cI (n:=x.2) () x4;let na:=iA (n:=x.1) () x2;let nb:=iA (n:=x.2) () x4;let l1:("/": Str).length=1:=rfl;refine{_,(ae (ax (ptr bE (b4 (pv 0) ah) ah)
  (ai (aj (FG c9 T.oK (ag (b4 (pv 0) ah) af))))
  ak)
  (ai (aj (az bP (az bP (FG c9 T.oK (ag (b4 (pv 0) ah) af)) ay) (FG c9 T.oK (ag (b4 (pv 0) ah) af)))))),?_}
 ac_rfl;left
 by_cases c:x.2=1
 ·refine bF (by rw[c];rfl) ?_
  exists na,?_;left;unfold cR at kk;rw[yF c] at kk;exact kk
 ·refine bG (zc λz=>c (V.int.inj z)) ?_
  unfold cR at kk;rw[yE c] at kk;exists na,?_;exists by show(dec x.1).length+_<=_;ext,?_
  exists nb,?_;exists by show(dec x.1 ++"/").length+⇑(dec x.2)<=_;rw[len_app];ext,?_
  exact kk
def ju:cG P w base 1 T.fR (o9 K):=by
 nomatch T.fR,["_law_script","_law_k"]
 let⟨a,ns,k,rfl,hS,h0,hl,kk⟩:=h;refine{_,(ae (ax (ptr gF (pv 1) (c5 aq T.aP (aa (pv 0) af)))
  (ai (aj (eF (pv 0) (pv 1))))
  ak)
  (ai (aj ah))),?_}
 exists a,_,rfl,.inl hS,?_;left;refine pz (λc1=>?_) (λc1=>?_)
 ·let c2:=zX c1
  rw[za] at c2;change{a,_,_,_,rfl,rfl,hS,JN h0 c2,kk _}
 ·left
  exact kk _
noncomputable def oN:List (Int×Int):=[(4,4),(3,4),(6,8),(2,2),(5,16),(7,8),(1,32),(32,1)]
noncomputable def CB (m:Int):Int×Int:=(oN[(m%8).toNat]?).getD (4,4)
def KN (m:Int):CB m∈oN:=by
 let a:=zr m (b:=8) ∅;let b:=zm m (b:=8) ∅;let l:(m%8).toNat<⇑oN:=by show _<8;ext
 unfold CB;rw[zb l];exact yc l
def lC:Sp:=λvs H Q _=>∃(m:Int),vs=[.int m]/\0<=m/\∀q H',au H H'->H' q=some (fw (CB m))->Q (.ref q) H'
def tF:cG P w base 1 T.mn lC:=by
 nomatch T.mn,["_law_m"]
 let⟨m,rfl,m0,kk⟩:=h;obtain⟨es,p1,q1,q2,q3,q4,q5,q6,eb,hl⟩:∃es p1 q1 q2 q3 q4 q5 q6,aV mz=[.Return (some (.Subscript (.List es p1) (.BinOp (.Name "_law_m" q1) .Mod (.Constant (.int 8) q2 q3) q4) q5)) q6]/\IZ es oN:={_,_,_,_,_,_,_,_,rfl,by repeat constructor}
 rw[eb];refine{_,ai (aj (eF (MK (MM hl)) (az b8 (pv 0) ah))),?_};ac_rfl;intro D vs H1 s1 hD il;let vl:⇑vs=8:=by rw[aI il];rfl
 obtain⟨j,ej,j8⟩:∃j:Nat,m%8=(j:Int)/\j<8:={(m%8).toNat,(),()}
 obtain⟨v,hv⟩:∃v,vs[j]?=some v:={_,zb (show j<⇑vs by ext)}
 let⟨x,hx,ix⟩:=cX il hv;left;cases dF (o:=some x) ix with
 | ref h8=>
  refine{D,_,m%8,_,rfl,rfl,aD.of hD,(by rw[ej];exact aQ hv),?_};let ex:CB m=x:=by unfold CB;rw[ej,xH,hx];rfl
  exact kk _ H1 s1 (by rw[ex];exact h8)
def kc {H:Hp} {q:wV} {x:Int×Int} (h:H q=some (fw x)):Is H (dL x) (.ref q):=d7 h (aM dI (dH dI))
theorem gL {H:Hp}:∀{a b:List Dt} {us vs:List V},ar H a us->ar H b vs->ar H (a++b) (us++vs)
 | [],_,_,_,h,k=>by unfold ar at h;subst h;exact k
 | d::a,b,us,vs,h,k=>by
  unfold ar at h;let⟨v,r,rfl,h1,h2⟩:=h;exact aM h1 (gL h2 k)
theorem ka {H:Hp}:∀{a:List Dt} {us:List V} (k:Nat),ar H a us->ar H (a.take k) (us.take k)
 | a,us,0,h=>by rw[List.take_zero,List.take_zero];exact eM
 | [],us,k+1,h=>by unfold ar at h;subst h;exact eM
 | d::a,us,k+1,h=>by
  unfold ar at h;let⟨v,r,rfl,h1,h2⟩:=h;exact aM h1 (ka k h2)
theorem kb {H:Hp}:∀{a:List Dt} {us:List V} (k:Nat),ar H a us->ar H (a.drop k) (us.drop k)
 | a,us,0,h=>h
 | [],us,k+1,h=>by unfold ar at h;subst h;exact eM
 | d::a,us,k+1,h=>by
  unfold ar at h;let⟨v,r,rfl,h1,h2⟩:=h;exact kb k h2
theorem Az {H:Hp} {d:Dt} {v:V} (hv:Is H d v):∀{a:List Dt} {us:List V} (k:Nat),ar H a us->ar H (a.set k d) (us.set k v)
 | [],us,k,h=>by unfold ar at h;subst h;exact eM
 | e::a,us,0,h=>by
  unfold ar at h;let⟨v',r,rfl,h1,h2⟩:=h;exact aM hv h2
 | e::a,us,k+1,h=>by
  unfold ar at h;let⟨v',r,rfl,h1,h2⟩:=h;exact aM h1 (Az hv k h2)
def Fy {X:Cx} {o i e:Expr} {to ti te:TE} {pos tpos:Pos} (ho:PE X o to) (hi:PE X i ti) (he:PE X e te)
  (ha:(∀v,assign (.Subscript o i tpos) X.env v=(do
   let ov <-holding [v] (eval o X.env)
   let iv <-holding [v,ov] (eval i X.env)
   standAt tpos
   holding [v,ov,iv] (setItem ov iv v)
   release [v,ov,iv] []))<|>qd_) (hs:swapsWithSole [.Subscript o i tpos] e pos.line X.env=pure false<|>qe_) (hw:swappedStores [.Subscript o i tpos] e X.env=pure none<|>qe_)
  (h1:(assignEach [.Subscript o i tpos] X.env).map (·.2)=[assign (.Subscript o i tpos) X.env]<|>qe_):PS X (.Assign [.Subscript o i tpos] e pos) (jK te (OO to ti LG)):=ME he (MI ho hi set_list ha) hs hw h1
structure Hk (a b:Int) (n:Nat) (ps:List (Int×Int)):Prop where
 ne:ps≠[]
 len:⇑ps<=n
 all:∀x∈ps,Pt a b x
inductive lB (vs:List V) (H:Hp) (Q:VK) (E:XK):Prop
 | mk (q:wV) (x:Int×Int) (m:Int) (_:vs=[.ref q,.int m]) (_:H q=some (fw x)) (_:Pt 32 96 x) (_:0<=m) (_:m<4294967296) (_:∀p us ps H',au H H'->H' p=some (.lst us)->ar H' (ps.map dL) us->Hk 64 3936 41 ps->Q (.ref p) H')
def tE:cG P w base 4 T.mm lB:=by
 nomatch T.mm,["_law_length","_law_m","_law_many","_law_each","_law_parts_here","_law_at"]
 let⟨q,x,m,rfl,hq,px,m0,m1,kk⟩:=h;let sl:=yt;let x0:=px.p0;let x1:=px.p1;let x2:=px.p2;let x3:=px.pos;refine{_,(ae (ck 2 qN (eF (bg (ag ah (ag ah (ag ah (ag ah (ag ah (ag ah af))))))) (az b8 (pv 1) ah)))
  (ae (ck 3 qN (bx (cw T) hr T.cA (ag (b4 (pv 0) ah) (ag (az fk (b4 (pv 0) ah) (pv 2)) af))))
  (ae (Ou (i:=4) (ts:=["_law_k"]) (ys:=["_law_each"]) (js:=[3]) (te:=(aK 1)) (nR (by rfl) T.pN (ag (pv 2) af)) (lE 0) aX (pv 1) qN)
  (ae (ck 5 qN (az b8 (az d5 (pv 1) ah) (pv 2)))
  (ae (ax (PW.pt (d0 (ptr gf (pv 2) ah) (c7 (ptr bE (az b8 (az d5 (pv 1) ah) ah) ah))))
  (ae (ck 4 qN (az cN (bD cB (pv 4) cm (bZ (pv 5))) (bD cB (pv 4) (bZ (az cL (pv 5) ah)) cm)))
   (ai (Fy (pv 4) ah (bx (gH T) hr T.iL (ag (bg (ag (eF (pv 4) ah) (ag (pv 3) af))) af)))))
  ak)
  (ai (aj (pv 4)))))))),?_}
 ac_rfl;left
 skip
 refine{(by show 6<=sizeLine;ext),?_}
 intros p1 n1 s1 h1 H1
 left;obtain⟨n,hn,n0,n41⟩:∃n:Nat,Bu [V.int 1,V.int 2,V.int 3,V.int 5,V.int 40,V.int 41] (m%6)=some (V.int (n:Nat))/\1<=n/\n<=41:=by
  obtain e | e | e | e | e | e:m%6=0\/m%6=1\/m%6=2\/m%6=3\/m%6=4\/m%6=5:=()
  ·rw[e];exact{1,rfl,(),()}
  ·rw[e];exact{2,rfl,(),()}
  ·rw[e];exact{3,rfl,(),()}
  ·rw[e];exact{5,rfl,(),()}
  ·rw[e];exact{40,rfl,(),()}
  ·rw[e];exact{41,rfl,(),()}
 refine{p1,_,_,_,rfl,rfl,aD.of h1,hn,?_};let hq1:=s1 _ _ hq;left
 skip
 refine{.inl {(()),()},?_};let nx:0<x.2*(n:Int):=xh x3 ();let nl:x.2*(n:Int)<=96*41:=Int.mul_le_mul x2 () () ∅;refine{_,_,rfl,(),nx,(bp (n:=30) () ()).mono ∅,λe H2 s2 he=>?_};let pe:Pt 32 3936 (Lm.red x.1 (x.2*(n:Int))):=Pt.red x0 nx x1 nl;generalize Lm.red x.1 (x.2*(n:Int))=ec at he pe;left
 skip
 refine{(),(),?_};refine md (λ_=>dL ec) (λU=>∃v,U=[v,some (.ref e)]) (by rw[xH];ext) {(none),rfl} ?_ ?_
 ·rintro j U H4 R hj s4 ⟨_,rfl⟩ r
  change r _ _ _ (au.refl _) (kc (s4 _ _ he)) {_,rfl}
 intro D vs H3 s3 nD hD il;let e3:(List.range (n:Int).toNat).map (λ_:Nat=>dL ec)=(List.replicate n ec).map dL:=by rw[xH,List.map_const',zO,List.map_replicate]
 rw[e3] at il;let he3:=s3 _ _ he;let s03:=(s1.trans s2).trans s3;let nD0:H D=none:=by
  cases q:H D with
  | none=>rfl
  | some u=>rw[s2 _ _ (s1 _ _ q)] at nD;cases nD
 let vl:⇑vs=n:=by rw[aI il,List.length_replicate]
 left
 skip
 refine{(by show(0:Int)<n;ext),?_};obtain⟨j,ej,jn⟩:∃j:Nat,m/8%(n:Int)=(j:Int)/\j<n:={(m/8%(n:Int)).toNat,by have:=zr (m/8) (show(n:Int)≠0 by ext);ext,by have:=zm (m/8) (show(0:Int)<n by ext);have:=zr (m/8) (show(n:Int)≠0 by ext);ext}
 show bH 5 (V.int (m/8%(n:Int))) _ _ _;rw[ej];left;refine vn (decide (1<(n:Int))&&decide (V.int (m/64%2)=V.int 1)) ?_ ?_ ?_
 ·intro c1 Z hz
  rw[show decide (1<(n:Int))=true from c1,yM] at hz;change hz
 ·intro c1;rw[show decide (1<(n:Int))=false from c1,yK]
 refine join (λU H'=>∃p us ps,U=[some (.ref q),some (.int m),some (.int (n:Nat)),some (.ref e),some (.ref p),some (.int (j:Nat))]/\au H H'/\H' p=some (.lst us)/\ar H' (ps.map dL) us/\Hk 64 3936 41 ps) (λN hN c1=>?_) (λN hN c1=>?_) ?_
 ·rw[zL] at c1
  let n2:1<n:=by have:=zX c1.1;ext
  exists D,_,rfl,aD.of hD,?_
  intros p5 n5 s5 h5 H5
  exists D,_,rfl,aD.of (s5 _ _ hD),?_
  intros p6 n6 s6 h6 H6
  let h5':H6 p5=some (.lst (vs.take j)):=by rw[s6 _ _ h5,m5]
  let h6':H6 p6=some (.lst (vs.drop (j+1))):=by
   rw[h6];show some (HO.lst (gm vs (some ((j:Int)+1)) none))=_;rw[show(j:Int)+1=((j+1:Nat):Int) by ext,cK]
  exists p5,p6,_,_,rfl,rfl,aD.of h5',aD.of h6',(by rw[zN,xj];ext),?_
  intros p7 n7 s7 h7 H7
  let s37:=(s5.trans s6).trans s7;let il7:=gL (ka j (il.mono s37)) (kb (j+1) (il.mono s37));let ed:((List.replicate n ec).map dL).take j++((List.replicate n ec).map dL).drop (j+1)=(List.replicate (n-1) ec).map dL:=by
   rw[List.map_replicate,List.map_replicate,List.take_replicate,List.drop_replicate,List.replicate_append_replicate];congr 1;ext
  rw[ed] at il7;generalize hw:vs.take j++vs.drop (j+1)=ws at h7 il7;let wl:⇑ws=n-1:=by rw[aI il7,List.length_replicate]
  obtain⟨v0,hv0⟩:∃v,ws[0]?=some v:={_,zb (show 0<⇑ws by ext)}
  let⟨x',hx',ix⟩:=cX il7 hv0;let ex:x'=ec:=List.eq_of_mem_replicate (zy hx');subst ex;exists p7,_,0,_,rfl,rfl,aD.of h7,aQ (j:=0) hv0,?_;left
  skip
  refine{(by show 2<=sizeLine;ext),?_}
  intros p8 n8 s8 h8 H8
  let he8:=s8 _ _ (s37 _ _ he3);let l64:ow x':=(pe.mono ∅ ∅).LO;left;refine{p8,_,[x',x'],rfl,aD.of h8,aM (ix.mono s8) (dH (kc he8)),(by show 2<=500;decide),(λy hy=>?_),λr H9 s9 h9=>?_}
  ·rcases zA.mp hy with rfl | hy
   ·exact l64
   ·rw[zv.mp hy];exact l64
  let es:jL [x',x']=Lm.add x' x':=by
   show Lm.add (Lm.add (0,1) x') x'=_;rw[show Lm.add (0,1) x'=x' by rw[Lm.add_comm];exact Lm.add_zero pe.rd]
  rw[es] at h9;left;let h79:=s9 _ _ (s8 _ _ h7);let s06:=s03.trans (s5.trans s6);let n7H:H p7=none:=s06.back n7;refine{p7,ws,0,0,rfl,rfl,h79,(by unfold Ji;rw[wl];simp;ext),?_};refine hN _ _ {p7,ws.set 0 (.ref r),(List.replicate (n-1) x').set 0 (Lm.add x' x'),rfl,λb u hb=>?_,aA,?_,?_}
  ·rw[ao (λz=>by rw[z,n7H] at hb;cases hb)]
   exact s9 _ _ (s8 _ _ (s7 _ _ (s06 _ _ hb)))
  ·rw[List.map_set]
   exact ar.upd (λvs z=>by rw[h79] at z;cases z) (Az (kc h9) 0 (il7.mono (s8.trans s9)))
  ·refine{λz=>?_,by rw[List.length_set,List.length_replicate];ext,λy hy=>?_}
   ·have:=yQ List.length z
    rw[List.length_set,List.length_replicate] at this;simp at this;ext
   ·rcases List.mem_or_eq_of_mem_set hy with hy | rfl
    ·rw[List.eq_of_mem_replicate hy];exact pe.mono ∅ ∅
    ·exact(pe.twice).mono ∅ ∅
 ·left
  exact hN _ _ {D,vs,List.replicate n ec,rfl,s03,hD,il,{by intro z;have:=yQ List.length z;rw[List.length_replicate] at this;simp at this;ext,by rw[List.length_replicate];exact n41,λy hy=>by rw[List.eq_of_mem_replicate hy];exact pe.mono ∅ ∅}}
 rintro U H4 ⟨p,us,ps,rfl,s4,hp,ip,ok⟩;change kk p us ps H4 s4 hp ip ok
inductive jQ (K:yr) (vs:List V) (H:Hp) (Q:VK) (E:XK):Prop
 | mk (p:wV) (us:List V) (ps:List (Int×Int)) (m:Int) (_:vs=[.ref p,.int m]) (_:H p=some (.lst us)) (_:ar H (ps.map dL) us) (_:Hk 64 3936 41 ps) (_:0<=m) (_:∀p' us' ps' H',au H H'->H' p'=some (.lst us')->ar H' (ps'.map dL) us'->Hk 9999 9999 42 ps'->Q (.ref p') H')
def qU:cG P w base 4 T.ku (jQ K):=by
 nomatch T.ku,["_law_parts_here","_law_m","_law_at","_law_how"]
 let⟨p,us,ps,m,rfl,hp,il,ok,m0,kk⟩:=h;let sl:=yt;let ul:=aI il;let pl:=ok.len;let p0:0<⇑ps:=yh.mpr ok.ne;refine{_,(ae (ck 2 qN (az b8 (az d5 (pv 1) ah) (c5 aq T.aP (ag (pv 0) af))))
  (ae (ck 3 qN (az b8 (pv 1) ah))
  (ae (ax (PW.pt (d0 (ptr bE (pv 3) ah) (c7 (ptr gf (c5 aq T.aP (ag (pv 0) af)) ah))))
  (ai (aj (az cN (bD cB (pv 0) cm (bZ (pv 2))) (bD cB (pv 0) (bZ (az cL (pv 2) ah)) cm))))
  ak)
  (ae (ax (ptr bE (pv 3) ah)
  (ai (aj (az cN (pv 0) (bg (ag (bB (ag ah (ag ah af))) af)))))
  ak)
  (ae (ax (ptr bE (pv 3) ah)
  (ai (aj (az cN (az cN (bD cB (pv 0) cm (bZ (pv 2))) (bg (ag (bx (gH T) hr T.iL (ag (bg (ag (eF (pv 0) (pv 2)) (ag (eF (pv 0) (pv 2)) af))) af)) af))) (bD cB (pv 0) (bZ (az cL (pv 2) ah)) cm))))
  ak)
  (ae (ax (ptr bE (pv 3) ah)
  (ai (aj (az cN (az cN (bD cB (pv 0) cm (bZ (pv 2))) (bg (ag (bx (cw T) hr T.cA (ag (b4 (eF (pv 0) (pv 2)) ah) (ag (az fk (b4 (eF (pv 0) (pv 2)) ah) ah) af))) af))) (bD cB (pv 0) (bZ (az cL (pv 2) ah)) cm))))
  ak)
  (ai (aj (pv 0))))))))),?_}
 ac_rfl;exists p,us,rfl,.inl (aD.of hp),?_;left
 skip
 refine{(by show(0:Int)<⇑us;ext),?_};obtain⟨j,ej,jn⟩:∃j:Nat,m/6%(⇑us:Int)=(j:Int)/\j<⇑us:={(m/6%(⇑us:Int)).toNat,by have:=zr (m/6) (show(⇑us:Int)≠0 by ext);ext,by have:=zm (m/6) (show(0:Int)<⇑us by ext);have:=zr (m/6) (show(⇑us:Int)≠0 by ext);ext}
 show bH 2 (V.int (m/6%(⇑us:Int))) _ _ _;rw[ej];obtain⟨x,hx⟩:∃x,ps[j]?=some x:={_,zb (show j<⇑ps by ext)}
 let px:=ok.all x (zy hx);obtain⟨v,hv⟩:∃v,us[j]?=some v:={_,zb jn}
 let iv:Is H (dL x) v:=by
  let⟨x',hx',ix⟩:=cX il hv;rw[hx] at hx';cases hx';exact ix
 let all':∀y∈ps,Pt 9999 9999 y:=λy hy=>(ok.all y hy).mono ∅ ∅;let mid:∀(y:Int×Int),Pt 9999 9999 y->Hk 9999 9999 42 (ps.take j++(y::ps.drop (j+1))):=λy py=>{by simp,by rw[ze,zN,zo,xj];ext,λz hz=>by
  rcases zD.mp hz with hz | hz
  ·exact all' z (List.mem_of_mem_take hz)
  rcases zA.mp hz with rfl | hz
  ·exact py
  ·exact all' z (List.mem_of_mem_drop hz)}
 let em:∀(y:Int×Int),(ps.take j++(y::ps.drop (j+1))).map dL=(ps.map dL).take j++([dL y]++(ps.map dL).drop (j+1)):=λy=>by rw[zg,List.map_take,zf,List.map_drop];rfl
 left;refine vn (decide (V.int (m%6)=V.int 1)&&decide (1<(⇑us:Int))) ?_ ?_ ?_
 ·intro c1 Z hz
  rw[show decide (V.int (m%6)=V.int 1)=true from c1,yM] at hz;exists p,us,rfl,.inl (aD.of hp),?_;change hz
 ·intro c1;rw[show decide (V.int (m%6)=V.int 1)=false from c1,yK]
 by_cases c1:(decide (V.int (m%6)=V.int 1)&&decide (1<(⇑us:Int)))=true
 ·refine bF c1 ?_
  rw[zL] at c1;let n2:1<⇑us:=by have:=zX c1.2;ext
  exists p,_,rfl,aD.of hp,?_
  intros p5 n5 s5 h5 H5
  exists p,_,rfl,aD.of (s5 _ _ hp),?_
  intros p6 n6 s6 h6 H6
  let h5':H6 p5=some (.lst (us.take j)):=by rw[s6 _ _ h5,m5]
  let h6':H6 p6=some (.lst (us.drop (j+1))):=by
   rw[h6];show some (HO.lst (gm us (some ((j:Int)+1)) none))=_;rw[show(j:Int)+1=((j+1:Nat):Int) by ext,cK]
  exists p5,p6,_,_,rfl,rfl,aD.of h5',aD.of h6',(by rw[zN,xj];ext),?_
  intros p7 n7 s7 h7 H7
  let s37:=(s5.trans s6).trans s7;refine kk p7 _ (ps.take j++ps.drop (j+1)) H7 s37 h7 ?_ {?_,by rw[ze,zN,xj];ext,λz hz=>?_}
  ·rw[zg,List.map_take,List.map_drop]
   exact gL (ka j (il.mono s37)) (kb (j+1) (il.mono s37))
  ·intro z
   have:=yQ List.length z;rw[ze,zN,xj,y7] at this;ext
  ·rcases zD.mp hz with hz | hz
   ·exact all' z (List.mem_of_mem_take hz)
   ·exact all' z (List.mem_of_mem_drop hz)
 refine bG (Bool.eq_false_iff.mpr c1) ?_;left
 by_cases c2:m%6=2
 ·refine bF (zd (yQ V.int c2)) ?_
  left
  skip
  refine{(by show 2<=sizeLine;ext),?_}
  intros p5 n5 s5 h5 H5
  left
  skip
  refine{(by show 1<=sizeLine;ext),?_}
  intros p6 n6 s6 h6 H6
  exists p,p6,_,_,rfl,rfl,aD.of (s6 _ _ (s5 _ _ hp)),aD.of h6,(by show _+1<=_;ext),?_
  intros p7 n7 s7 h7 H7
  let s37:=(s5.trans s6).trans s7;let q:Pt 9999 9999 (1,64):=by
   have:=Pt.red (t:=1) (b:=64) (a:=9999) (c:=9999) ∅ ∅ ∅ ∅;exact this
  refine kk p7 _ (ps++[(1,64)]) H7 s37 h7 ?_ {by simp,by rw[ze];show _+1<=_;ext,λz hz=>?_}
  ·rw[zg]
   exact gL (il.mono s37) (dH (kc (s7 _ _ (s6 _ _ h5))))
  ·rcases zD.mp hz with hz | hz
   ·exact all' z hz
   ·rw[zv.mp hz];exact q
 refine bG (zc λz=>c2 (V.int.inj z)) ?_;left
 by_cases c3:m%6=3
 ·refine bF (zd (yQ V.int c3)) ?_
  exists p,_,rfl,aD.of hp,?_
  intros p5 n5 s5 h5 H5
  exists p,_,(j:Int),_,rfl,rfl,aD.of (s5 _ _ hp),aQ hv,?_;exists p,_,(j:Int),_,rfl,rfl,aD.of (s5 _ _ hp),aQ hv,?_;left
  skip
  refine{(by show 2<=sizeLine;ext),?_}
  intros p8 n8 s8 h8 H8
  let iv8:=iv.mono (s5.trans s8);let lx:ow x:=(px.mono ∅ ∅).LO;left;refine{p8,_,[x,x],rfl,aD.of h8,aM iv8 (dH iv8),(by show 2<=500;decide),(λy hy=>?_),λr H9 s9 h9=>?_}
  ·rcases zA.mp hy with rfl | hy
   ·exact lx
   ·rw[zv.mp hy];exact lx
  let es:jL [x,x]=Lm.add x x:=by
   show Lm.add (Lm.add (0,1) x) x=_;rw[show Lm.add (0,1) x=x by rw[Lm.add_comm];exact Lm.add_zero px.rd]
  rw[es] at h9;left
  skip
  refine{(by show 1<=sizeLine;ext),?_}
  intros p10 n10 s10 h10 H10
  let h5':H10 p5=some (.lst (us.take j)):=by rw[s10 _ _ (s9 _ _ (s8 _ _ h5)),m5]
  exists p5,p10,_,_,rfl,rfl,aD.of h5',aD.of h10,(by rw[zN];show _+1<=_;ext),?_
  intros p11 n11 s11 h11 H11
  exists p,_,rfl,aD.of (s11 _ _ (s10 _ _ (s9 _ _ (s8 _ _ (s5 _ _ hp))))),?_
  intros p12 n12 s12 h12 H12
  let h12':H12 p12=some (.lst (us.drop (j+1))):=by
   rw[h12];show some (HO.lst (gm us (some ((j:Int)+1)) none))=_;rw[show(j:Int)+1=((j+1:Nat):Int) by ext,cK]
  exists p11,p12,_,_,rfl,rfl,aD.of (s12 _ _ h11),aD.of h12',(by rw[ze,zN,xj];show _+1+_<=_;ext),?_
  intros p13 n13 s13 h13 H13
  let sA:=(s10.trans s11).trans (s12.trans s13);let s0A:=((s5.trans s8).trans s9).trans sA;refine kk p13 _ _ H13 s0A (by rw[h13,zC]) ?_ (mid _ (px.twice.mono ∅ ∅));rw[em];exact gL (ka j (il.mono s0A)) (gL (dH (kc (sA _ _ h9))) (kb (j+1) (il.mono s0A)))
 refine bG (zc λz=>c3 (V.int.inj z)) ?_;left
 by_cases c4:m%6=4
 ·refine bF (zd (yQ V.int c4)) ?_
  exists p,_,rfl,aD.of hp,?_
  intros p5 n5 s5 h5 H5
  let iv5:=iv.mono s5;let hv':=hv;let x0:=px.p0;let x1:=px.p1;let x2:=px.p2;let x3:=px.pos;cases dF (o:=some x) iv5 with
  | ref hq=>
   exists p,_,(j:Int),_,rfl,rfl,aD.of (s5 _ _ hp),aQ hv',?_;exists p,_,(j:Int),_,rfl,rfl,aD.of (s5 _ _ hp),aQ hv',?_;exists _,_,rfl,(),(),(bp (n:=30) () ()).mono ∅,λr H9 s9 h9=>?_;left
   skip
   refine{(by show 1<=sizeLine;ext),?_}
   intros p10 n10 s10 h10 H10
   let h5':H10 p5=some (.lst (us.take j)):=by rw[s10 _ _ (s9 _ _ h5),m5]
   exists p5,p10,_,_,rfl,rfl,aD.of h5',aD.of h10,(by rw[zN];show _+1<=_;ext),?_
   intros p11 n11 s11 h11 H11
   exists p,_,rfl,aD.of (s11 _ _ (s10 _ _ (s9 _ _ (s5 _ _ hp)))),?_
   intros p12 n12 s12 h12 H12
   let h12':H12 p12=some (.lst (us.drop (j+1))):=by
    rw[h12];show some (HO.lst (gm us (some ((j:Int)+1)) none))=_;rw[show(j:Int)+1=((j+1:Nat):Int) by ext,cK]
   exists p11,p12,_,_,rfl,rfl,aD.of (s12 _ _ h11),aD.of h12',(by rw[ze,zN,xj];show _+1+_<=_;ext),?_
   intros p13 n13 s13 h13 H13
   let sA:=(s10.trans s11).trans (s12.trans s13);let s0A:=(s5.trans s9).trans sA;refine kk p13 _ _ H13 s0A (by rw[h13,zC]) ?_ (mid _ (Pt.red (t:=x.1) (b:=x.2*2) x0 () () ()));rw[em];exact gL (ka j (il.mono s0A)) (gL (dH (kc (sA _ _ h9))) (kb (j+1) (il.mono s0A)))
 refine bG (zc λz=>c4 (V.int.inj z)) ?_;change kk p us ps H (au.refl _) hp il {(ok.ne),(),all'}
noncomputable def P8 (w:Nat):Option (Int×Int):=match w with | 0=>some (0,0) | 1=>none | 2=>some (-2,-2) | _=>some (1,7)
noncomputable def MC (w:Nat):Str:=match w with | 0=> "0:0:" | 1=> "r:" | 2=> "-2:-2:" | _=> "1:7:"
def M7 {w:Nat} (x:Int×Int) (hw:w<4):kX (P8 w,x)=MC w++cR x:=by
 obtain rfl | rfl | rfl | rfl:w=0\/w=1\/w=2\/w=3:=()
 ·show dec 0 ++":" ++ dec 0 ++":" ++ cR x=_
  rw[show dec 0 ++":" ++ dec 0 ++":"= ("0:0:": Str) by decide +kernel];rfl
 ·rfl
 ·show dec (-2) ++":" ++ dec (-2) ++":" ++ cR x=_
  rw[show dec (-2) ++":" ++ dec (-2) ++":"= ("-2:-2:": Str) by decide +kernel];rfl
 ·show dec 1 ++":" ++ dec 7 ++":" ++ cR x=_
  rw[show dec 1 ++":" ++ dec 7 ++":"= ("1:7:": Str) by decide +kernel];rfl
def FN {w:Nat} {x:Int×Int} (hw:w<4) (h:ow x):pJ (P8 w,x):=by
 refine{h,λq e=>?_};obtain rfl | rfl | rfl | rfl:w=0\/w=1\/w=2\/w=3:=()
 ·cases e;unfold Ny;decide
 ·cases e
 ·cases e;unfold Ny;decide
 ·cases e;unfold Ny;decide
def Kv {w:Nat} (hw:w<4):⇑(MC w)<=6:=by
 obtain rfl | rfl | rfl | rfl:w=0\/w=1\/w=2\/w=3:=()
 all_goals decide
def MB {w:Nat} (hw:w<4):[V.str "0:0:",V.str "r:",V.str "-2:-2:",V.str "1:7:"][w]?=some (V.str (MC w)):=by
 obtain rfl | rfl | rfl | rfl:w=0\/w=1\/w=2\/w=3:=()
 all_goals rfl
inductive oG (vs:List V) (H:Hp) (Q:VK) (E:XK):Prop
 | mk (b m:Int) (pl:Str) (p:wV) (us:List V) (ps:List (Int×Int)) (_:vs=[.int b,.str pl,.ref p,.int m]) (_:0<=b) (_:b<1000) (_:⇑pl<=100) (_:H p=some (.lst us)) (_:ar H (ps.map dL) us) (_:Hk 9999 9999 42 ps) (_:0<=m) (_:∀its H',its.map (·.2)=ps->(∀it∈its,pJ it)->its.all (λit=>it.1.isNone)=false->au H H'->Q (.str (rowOf (.av b pl its))) H')
def Cp:cG P w base 2 T.so oG:=by
 nomatch T.so,["_law_bar","_law_player","_law_parts_here","_law_m","_law_words","_law_k","_law_part","_law_which"]
 let⟨b,m,pl,p,us,ps,rfl,b0,b1,pll,hp,il,ok,m0,kk⟩:=h;let sl:=yt;let ul:=aI il;let pn:=ok.len;let p0:0<⇑ps:=yh.mpr ok.ne;let db:=cI (n:=b) () ();refine{_,(ae (ck 4 qN (bg (ag ay (ag (FG c9 T.oK (ag (pv 0) af)) (ag (pv 1) af)))))
  (ae (hJ yG rfl (Ae (by rfl) T.j0 (ag (pv 2) af)) (jU (n:=2) rfl (bQ (FA 5 qN) (bQ (FA 6 qN) gE)))
  (ae (ck 7 qN (az fk (az b8 (az MN (pv 3) (pv 5)) ah) (FG Hb T.FJ (ag (bT fB (pv 5) (az b8 (pv 3) (c5 aq T.aP (ag (pv 2) af))) (dj _)) af))))
   (ai (eT (cV yu yw yv eK (pv 4) (ag (az bP (eF (bg (ag ay (ag ay (ag ay (ag ay af))))) (pv 7)) (bx (cp T) hr T.bX (ag (pv 6) af))) af))))))
  (ai (aj (cV yx yz yy i0 ay (ag (pv 4) af)))))),?_}
 ac_rfl;left
 skip
 refine{iA () (),?_};left
 skip
 refine{(by show 3<=sizeLine;ext),?_}
 intros D nD s1 hD H1
 left;let hp1:=s1 _ _ hp;let nDp:D≠p:=λz=>by rw[z,hp] at nD;cases nD
 refine{p,us,rfl,aD.of hp1,?_};refine rk (K:=K) (a:=p) (xs:=us) (λi U H'=>∃(its:List Item) (u5 u6 u7:Option V),U=[some (.int b),some (.str pl),some (.ref p),some (.int m),some (.ref D),u5,u6,u7]/\au H H'/\H' D=some (.lst ([V.str "notes",V.str (dec b),V.str pl]++its.map λit=>V.str (kX it)))/\its.map (·.2)=ps.take i/\(∀it∈its,pJ it)/\(m%(⇑ps:Int)<i->its.all (λit=>it.1.isNone)=false))
  {[],none,none,none,rfl,s1,hD,rfl,(λ_ z=>nomatch z),λz=>by have:=zr m (show(⇑ps:Int)≠0 by ext);ext} (λi U H' _ h=>by let⟨_,_,_,_,_,h,_⟩:=h;exact aD.of (h _ _ hp)) ?_ ?_
 ·intro i x U H3 t H4 hx hh s34 ht4
  refine iM λN kN0 kR0 _ _=>?_;let⟨its,u5,u6,u7,rfl,s3,hD3,ei,iok,all⟩:=hh;let⟨y,hy,iy⟩:=cX il hx;let hi:i<⇑ps:=(zt.mp hy).1;let py:=ok.all y (zy hy);let ly:=py.LO;let y1:=py.p0;let y2:=py.p1;let y3:=py.p2;let y4:=py.pos;let ilen:⇑its=i:=by have:=yQ List.length ei;rw[za,zN] at this;ext
  let s4:=s3.trans s34;let hD4:=s34 _ _ hD3;obtain⟨q,rfl,hq⟩:∃q,x=.ref q/\H q=some (fw y):=by
   cases dF (o:=some y) iy with
   | ref h8=>exact{_,rfl,h8}
  refine{t,_,rfl,cx.of ht4,rfl,?_};refine{_,_,rfl,{_,_,rfl,{rfl,?_}}};left
  skip
  refine{(by show(0:Int)<=i;ext),?_};exists p,us,rfl,.inl (aD.of (s4 _ _ hp)),?_;left
  skip
  refine{(by show(0:Int)<⇑us;ext),?_};obtain⟨w,ew,w4,wz⟩:∃w:Nat,m/2^(i:Int).toNat%4*(if(!decide (V.int (i:Int)=V.int (m%(⇑us:Int))))=true then 1 else 0)=(w:Int)/\w<4/\(m%(⇑ps:Int)=i->w=0):=by
   by_cases c:(i:Int)=m%(⇑us:Int)
   ·rw[zd (yQ V.int c)]
    exact{0,by simp,(),λ_=>rfl}
   ·rw[zc λz=>c (V.int.inj z)]
    exact{(m/2^(i:Int).toNat%4).toNat,by simp;ext,(),λz=>absurd (by rw[ul,z]) c}
  left
  skip
  refine{.inl {(()),()},?_};show bH 7 (V.int (m/2^(i:Int).toNat%4*(if(!decide (V.int (i:Int)=V.int (m%(⇑us:Int))))=true then 1 else 0))) _ _ _;rw[ew];let lw:=Kv w4;let lt:=fU (x:=y) () () () ();left
  skip
  refine{.inl {rfl,_,aD.of hD4},?_};left
  skip
  refine{(by show 4<=sizeLine;ext),?_}
  intros p5 n5 s5 h5 H5
  exists p5,_,(w:Int),_,rfl,rfl,aD.of h5,aQ (MB w4),?_;exists q,y,rfl,s5 _ _ (s4 _ _ hq),(),(),y4,(),?_;left
  skip
  refine{(),?_};rw[<-M7 y w4];exists D,_,_,rfl,rfl,s5 _ _ hD4,(by rw[ze,za];show 3+_<_;ext),?_;left;let nD5:H D=none:=nD;refine{its++[(P8 w,y)],_,_,_,rfl,λbb u hb=>?_,?_,?_,?_,?_}
  ·rw[ao (λz=>by rw[z,nD5] at hb;cases hb)];exact s5 _ _ (s4 _ _ hb)
  ·rw[aA,zg,zC];rfl
  ·rw[zg,ei,gw hy];rfl
  ·intro it hit
   rcases zD.mp hit with hit | hit
   ·exact iok it hit
   ·rw[zv.mp hit];exact FN w4 ly
  ·intro lt'
   rw[List.all_append]
   by_cases c:m%(⇑ps:Int)<i
   ·rw[all c];rfl
   ·rw[wz ()]
    show(_&&false)=false;rw[wa]
 ·rintro U H3 ⟨its,u5,u6,u7,rfl,s3,hD3,ei,iok,all⟩
  rw[ul,zK] at ei;let al:=all (by rw[ul];exact zm m (show(0:Int)<⇑ps by ext));left;let hw:[V.str "notes",V.str (dec b),V.str pl]++its.map (λit=>V.str (kX it))=(Sc.wordsOf (.av b pl its)).map V.str:=by
   show _=(("notes": Str)::dec b::pl::its.map kX).map V.str;rw[zf,zf,zf,zw];rfl
  rw[hw] at hD3;let il3:⇑its<=42:=by have:=yQ List.length ei;rw[za] at this;ext
  let wl:∀z∈Sc.wordsOf (.av b pl its),⇑z<=100:=all_cons ∅ (all_cons () (all_cons pll λz hz=>by
   let⟨it,hit,rfl⟩:=zE.mp hz;exact zJ (uT (iok it hit)) ∅))
  let sm:=vH (sep:=" ") wl;let ww:⇑(Sc.wordsOf (.av b pl its))=⇑its+3:=by show(its.map kX).length+1+1+1=_;rw[za]
  refine{" ",D,_,rfl,rfl,aD.of hD3,?_,kk its H3 ei iok al s3};rw[ww] at sm;have:(⇑its+3)*(100+(" ": Str).length)<=45*(100+(" ": Str).length):=x9 () (zh _);let e1:45*(100+(" ": Str).length)=45*101:=rfl;ext
structure jE (pls:List Str):Prop where
 hd:pls.head?=some "a"
 nd:pls.Nodup
 len:⇑pls<=4
 nm:∀p∈pls,dk p/\⇑p<=100
structure lj (ms:List (Int×Int)):Prop where
 len:⇑ms<=10
 all:∀x∈ms,x∈oN
noncomputable def km (x:Int×Int):Sc.Lu:={x,0,[]}
noncomputable def R0 (pls:List Str) (ms:List (Int×Int)):List Told:=pls.map .aZ++ms.map λx=>.bar (km x)
noncomputable def S0 (pls:List Str) (ms:List (Int×Int)):cF:={players:=pls,bq:=ms.map km}
def j4:∀x∈oN,1<=x.1/\x.1<=32/\x.2∈A9/\1<=x.2/\x.2<=32:=by decide +kernel
def Qx {pls:List Str} {ms:List (Int×Int)} (hp:jE pls) (hm:lj ms):pI (S0 pls ms):=by
 have:=hp.len;have:=hm.len;refine{by show ⇑pls<=_;ext,by show 0<=_;ext,by show 0<=_;ext,by show(ms.map km).length<=_;rw[za];ext,by show 0<=_;ext,by show 0<=_;ext}
def Ft {pls:List Str} {ms:List (Int×Int)} (hp:jE pls) (hm:lj ms):Runs {} (R0 pls ms) (S0 pls ms):=by
 let l1:=hp.len;let l2:=hm.len;let sz:pI {}:=by unfold pI;simp
 let r1:=mD (l:=pls) (S:={}) hp.nd (by show ⇑pls<=12;ext) (rg rfl) sz;let sz1:pI {players:=pls}:=by
  refine{by show ⇑pls<=_;ext,?_};simp
 let r2:=uH (l:=ms.map km) (S:={players:=pls}) (by show(ms.map km).length<=200;rw[za];ext) (rg rfl) sz1;rw[zw] at r2;exact Runs.app r1 r2
def Ke {x:Int×Int} (h:x∈oN):TD (.bar (km x)):=by
 let⟨h1,h2,h3,h4,h5⟩:=j4 x h;let l1:(dec x.1 ++"/" ++ dec x.2).length<=100:=by
  rw[len_app,len_app];let a1:=cI (n:=x.1) () ();let a2:=cI (n:=x.2) () ();have:("/": Str).length=1:=rfl;ext
 exact{{h1,h2,h3,by show -7<=(0:Int);decide,by show(0:Int)<=7;decide,all_nil},by show 3<=100;decide,all_cons ∅ (all_cons l1 (all_cons (by show(dec 0).length<=100;decide +kernel) all_nil))}
def NG {pls:List Str} {ms:List (Int×Int)} (hp:jE pls) (hm:lj ms):∀t∈R0 pls ms,TD t:=λt ht=>by
 rcases zD.mp ht with ht | ht
 ·let⟨n,hn,rfl⟩:=zE.mp ht
  exact{(hp.nm n hn).1,by show 2<=100;decide,all_cons ∅ (all_cons (hp.nm n hn).2 all_nil)}
 ·let⟨x,hx,rfl⟩:=zE.mp ht
  exact Ke (hm.all x hx)
def Ac {pls:List Str} {ms:List (Int×Int)}:⇑(R0 pls ms)=⇑pls+⇑ms:=by unfold R0;rw[ze,za,za]
def qX {pls:List Str} {ms:List (Int×Int)} {b:Nat} {x:Int×Int} (h:ms[b]?=some x):(S0 pls ms).bc b=Lm.red x.1 x.2:=by
 unfold cF.bc;show(match (ms.map km)[b]? with | some x=>Lm.red x.bc.1 x.bc.2 | none=>(0,1))=_;rw[zH,h];rfl
def IY {pls:List Str} {ms:List (Int×Int)} (hm:lj ms):Ll (S0 pls ms):=λb hb=>by
 let⟨x,hx,rfl⟩:=zE.mp (show b∈ms.map km from hb);let⟨h1,h2,_,h4,h5⟩:=j4 x (hm.all x hx);exact{by show 0<=x.1;ext,by show x.1<=1000;ext,by show 0<x.2;ext,by show x.2<=1000;ext}
def J9 {pls:List Str} {ms:List (Int×Int)} {x l:Int×Int} (h:ms[0]?=some x) (hl:¬l.1*(Lm.red x.1 x.2).2<(Lm.red x.1 x.2).1*l.2):fault (S0 pls ms) (.aE l)=some ("length": Str):=by
 show(if(S0 pls ms).aE.isSome=true then some ("twice": Str) else if(S0 pls ms).bq.length=0 then some ("bar": Str) else if¬l.1*((S0 pls ms).bc 0).2<((S0 pls ms).bc 0).1*l.2 then some ("length": Str) else if(S0 pls ms).av.any (λp=>decide (p.1.1=0))=true then some ("length": Str) else none)=_;let hb:⇑ms≠0:=λz=>by rw[yi.mp z] at h;cases h
 rw[yE (show¬(S0 pls ms).aE.isSome=true from λz=>nomatch z),yE (by show¬(ms.map km).length=0;rw[za];exact hb),qX h,yF hl]
def FH {S:cF} {b:Int} {p:Str} {its:List Item} (h1:(b,p)∉S.av.map (·.1)) (h2:p∈S.players) (h3:b<⇑S.bq):fault S (.av b p its)=if gW its≠S.len b.toNat then some ("length": Str) else if 40<⇑its then some ("many": Str) else none:=by
 show(if(b,p)∈S.av.map (·.1) then some ("twice": Str) else if p∉S.players then some ("name": Str) else if¬S.has [b]=true then some ("bar": Str) else if gW its≠S.len b.toNat then some ("length": Str) else if 40<⇑its then some ("many": Str) else none)=_;rw[yE h1,yE (λz=>z h2),yE (λz=>z (Na λx hx=>by rw[zv.mp hx];exact h3))]
def uF {ts:List Told} {S:cF} {rest:List Str} {out:Out} (r:Runs {} ts S) (td:∀t∈ts,TD t) (h:RX S ⇑ts rest out):RX {} 0 (ts.map rowOf++rest) out:=Fs r td (by rw[Nat.zero_add];exact h)
def Kd {ts:List Told} (td:∀t∈ts,TD t):∀r∈ts.map rowOf,10∉r.cps.toList/\⇑r<=10100:=λr hr=>by
 let⟨t,ht,rfl⟩:=zE.mp hr;exact{B2 (td t ht).1,vC (td t ht)}
def pZ {b:Int} {p:Str} {its:List Item} (hb:NB b) (hp:dk p/\⇑p<=100) (hi:∀it∈its,pJ it) (al:its.all (λit=>it.1.isNone)=false) (hl:⇑its<=42):TD (.av b p its):=by
 let db:=cI (n:=b) (by have:=hb.1;ext) (by have:=hb.2;ext);refine{{(hb),hp.1,hi,al},by show(its.map kX).length+1+1+1<=100;rw[za];ext,all_cons ∅ (all_cons () (all_cons hp.2 λz hz=>?_))};let⟨it,hit,rfl⟩:=zE.mp hz;exact zJ (uT (hi it hit)) ∅
def BA {l:Int×Int} (h:ow l):TD (.aE l):=by
 have:=h.1.pos;let q:=fU (x:=l) () h.2.2.1 () h.2.2.2;exact{h,by show 2<=100;decide,all_cons ∅ (all_cons () all_nil)}
def Ey {pls:List Str} {ms:List (Int×Int)} {l:Int×Int} (h:ow l) (hm:lj ms):Dx (S0 pls ms) (.aE l):=by
 let p:=h.1.pos;have:=h.2;exact{{(bp (n:=30) () ()).mono ∅,(bp (n:=30) () ()).mono ∅},IY hm,by show 0<=_;ext}
def vB {ts:List Told} {ext:List Str} (td:∀t∈ts,TD t) (he:∀r∈ext,10∉r.cps.toList/\⇑r<=10100) (ne:ts.map rowOf++ext≠[]) (hl:⇑ts+⇑ext<=1000) :
  ((ts.map rowOf++ext).map (λz:Str=>⇑z+("\n": Str).length)).sum<=sizeLine/\(Str.join "\n" (ts.map rowOf++ext)).length+2<=sizeLine/\Txt.split (Str.join "\n" (ts.map rowOf++ext)) "\n"= ts.map rowOf++ext:=by
 let xe:∀x∈ts.map rowOf++ext,10∉x.cps.toList/\⇑x<=10100:=λx hx=>by
  rcases zD.mp hx with hx | hx
  ·exact Kd td x hx
  ·exact he x hx
 let a:=B1 (λx hx=>(xe x hx).2) (by rw[ze,za];exact hl);exact{a.1,a.2,qk ne λx hx=>(xe x hx).1}
def w6 (ts:List Told) (ext:List Str):rws ts++ext.map V.str=(ts.map rowOf++ext).map V.str:=by rw[zg];rfl
def NV (l:Int×Int):rowOf (.aE l) ="upbeat " ++ cR l:=rfl
def pL {t:Told} (h:TD t):∀r∈[rowOf t],10∉r.cps.toList/\⇑r<=10100:=all_cons {B2 h.1,vC h} all_nil
def jD {α:Type} {p:α->Prop} {a:α} {l:List α} (h:p a) (t:∀x∈l,p x):∀x∈a::l,p x:=List.forall_mem_cons.mpr {(h),t}
def t9 {α:Type} {p:α->Prop}:∀x∈([]:List α),p x:=λ_ h=>nomatch h
def GH:jE [("a": Str)]:={rfl,by simp,∅,all_cons {by unfold dk;decide +kernel,∅} all_nil}
def Cq:lj [(4,4)]:={∅,jD (by decide +kernel) t9}
abbrev lF (y:Int×Int):List Item:=[(some (0,0),(1,9999)),(none,y)]
def qW {y:Int×Int} (h:ow y):∀it∈lF y,pJ it:=jD (FN (w:=0) ∅ {Lm.Rd.of (t:=1) (b:=9999) ∅ ∅,∅,∅,∅}) (jD (FN (w:=1) ∅ h) t9)
def uP:(R0 [("a": Str)] [(4,4)]).map rowOf=[("player a": Str),("bar 4/4 0": Str)]:=by decide +kernel
def Lw:ow (9997,9998):={Lm.Rd.of (t:=9997) (b:=9998) ∅ (by decide +kernel),∅,∅,∅}
def Lv:ow (9998,9999):={Lm.Rd.of (t:=9998) (b:=9999) ∅ (by decide +kernel),∅,∅,∅}
def GK:rowOf (.av 0 "a" (lF (9997,9998))) ="notes 0 a 0:0:1/9999 r:9997/9998":=by decide +kernel
def GJ:rowOf (.av 0 "a" (lF (9998,9999))) ="notes 0 a 0:0:1/9999 r:9998/9999":=by decide +kernel
def FI {y:Int×Int} (h:ow y):TD (.av 0 "a" (lF y)):=pZ {∅,∅} (GH.nm _ zk) (qW h) rfl (show 2<=42 by decide)
def len0 {pls:List Str} {ms:List (Int×Int)} {b:Nat}:(S0 pls ms).len b=(S0 pls ms).bc b:=rfl
def IT:RX {} 0 ["player a","bar 4/4 0","notes 0 a 0:0:1/9999 r:9997/9998"] (.bad 2 "length"):=by
 let r:=uF (rest:=[rowOf (.av 0 "a" (lF (9997,9998)))]) (Ft GH Cq) (NG GH Cq) (w5 (w:="length") (FI Lw) {∅,∅,λit hi=>(qW Lw it hi).1,IY Cq} (by
  rw[FH (by show(0,("a": Str))∉([]:List (Int×Str));exact zB) zk (show(0:Int)<(1:Nat) by decide)];exact yF (by rw[len0,show Int.toNat 0=0 from rfl,qX (x:=(4,4)) rfl];decide +kernel)))
 rw[uP,GK] at r;exact r
noncomputable abbrev S1 (pls:List Str) (ms:List (Int×Int)) (its:List Item):cF:={S0 pls ms with av:=[((0,"a"),its)]}
def LB {pls:List Str} {ms:List (Int×Int)} {x:Int×Int} {its:List Item} (hx:ms[0]?=some x) (okp:jE pls) (okm:lj ms) (hl:⇑its<=40) (hi:∀it∈its,ow it.2) (hs:gW its=Lm.red x.1 x.2):Runs {} (R0 pls ms++[.av 0 "a" its]) (S1 pls ms its):=by
 refine(Ft okp okm).app (lR (l:=[((0,"a"),its)]) (S:=S0 pls ms) (by show [((0:Int),("a": Str))].Nodup;simp) (by show 1<=_;decide) (IY okm) (jD {Int.le_refl 0,?_,?_,hl,hi,?_} t9) (rg rfl) (Qx okp okm))
 ·show(0:Int)<(⇑(ms.map km):Nat)
  rw[za];have:⇑ms≠0:=λz=>by rw[yi.mp z] at hx;cases hx
  ext
 ·exact List.mem_of_head? okp.hd
 ·rw[hs];exact(qX hx).symm
def KL:RX {} 0 ["player a","bar 4/4 0","notes 0 a 0:0:1/9999 r:9998/9999"] (.ok (S1 ["a"] [(4,4)] (lF (9998,9999)))):=by
 let r:=uF (rest:=[]) (LB (x:=(4,4)) (its:=lF (9998,9999)) rfl GH Cq ∅ (λit hi=>(qW Lv it hi).1) (by decide +kernel)) (λt ht=>by
  rcases zD.mp ht with ht | ht
  ·exact NG GH Cq t ht
  ·rw[zv.mp ht];exact FI Lv) .nil
 rw[zg,uP,zf,GJ] at r;exact r
def Ib (L:Int×Int):rowOf (.av 0 "a" [(some (0,0),L)]) ="notes 0 a 0:0:" ++ cR L:=by
 show "notes" ++" " ++ (dec 0 ++" " ++ ("a" ++" " ++ (dec 0 ++":" ++ dec 0 ++":" ++ cR L)))=("notes 0 a 0:0:": Str)++cR L;simp only[<-oo];exact yQ (·++cR L) (by decide +kernel:("notes": Str) ++" " ++ dec 0 ++" " ++"a" ++" " ++ dec 0 ++":" ++ dec 0 ++":"="notes 0 a 0:0:")
def K4 {pls:List Str} {ms:List (Int×Int)} {l:Int×Int} {its:List Item} (h:ow l) (hm:lj ms):Dx (S1 pls ms its) (.aE l):={(Ey (pls:=pls) h hm).1,IY (pls:=pls) hm,by show 1<=_;decide}
def Jd {pls:List Str} {ms:List (Int×Int)} {x L:Int×Int} (hx:ms[0]?=some x) (okp:jE pls) (okm:lj ms) (e:Lm.red x.1 x.2=L) (lL:ow L) :
  (∀t∈R0 pls ms++[.av 0 "a" [(some (0,0),L)]],TD t)/\RX {} 0 ((R0 pls ms++[Told.av 0 "a" [(some (0,0),L)]]).map rowOf++[rowOf (.aE (1,999))]) (.bad (⇑(R0 pls ms)+1) "length"):=by
 let io:∀it∈[((some (0,0),L):Item)],pJ it:=jD (FN (w:=0) ∅ lL) t9;let l9:ow (1,999):={Lm.Rd.of (t:=1) (b:=999) ∅ ∅,∅,∅,∅}
 let td:∀t∈R0 pls ms++[.av 0 "a" [(some (0,0),L)]],TD t:=λt ht=>by
  rcases zD.mp ht with ht | ht
  ·exact NG okp okm t ht
  ·rw[zv.mp ht];exact pZ {∅,∅} (GH.nm _ zk) io rfl (show 1<=42 by decide)
 let hs:gW [((some (0,0),L):Item)]=Lm.red x.1 x.2:=by
  rw[e];show Lm.add (0,1) L=L;rw[Lm.add_comm];exact Lm.add_zero lL.1
 refine{td,?_};refine uF (LB hx okp okm (show 1<=40 by decide) (λit hi=>(io it hi).1) hs) td ?_;rw[ze];refine w5 (BA l9) (K4 l9 okm) ?_;show(if(S1 pls ms [(some (0,0),L)]).aE.isSome=true then some ("twice": Str) else if(S1 pls ms [(some (0,0),L)]).bq.length=0 then some ("bar": Str) else if¬(1:Int)*((S1 pls ms [(some (0,0),L)]).bc 0).2<((S1 pls ms [(some (0,0),L)]).bc 0).1*999 then some ("length": Str) else if(S1 pls ms [(some (0,0),L)]).av.any (λp=>decide (p.1.1=0))=true then some ("length": Str) else none)=_;let hb:⇑ms≠0:=λz=>by rw[yi.mp z] at hx;cases hx
 rw[yE (show¬(S1 pls ms [(some (0,0),L)]).aE.isSome=true from λz=>nomatch z),yE (by show¬(ms.map km).length=0;rw[za];exact hb)];split
 ·rfl
 ·exact yF rfl
def MS:RX {} 0 ["player a","bar 4/4 0","notes 0 a 0:0:1/9999 r:" ++"9997/9998"] (.bad 2 "length"):=by
 rw[show("notes 0 a 0:0:1/9999 r:": Str) ++"9997/9998"="notes 0 a 0:0:1/9999 r:9997/9998" by decide +kernel];exact IT
def MR:RX {} 0 ["player a","bar 4/4 0","notes 0 a 0:0:1/9999 r:" ++"9998/9999"] (.ok (S1 ["a"] [(4,4)] (lF (9998,9999)))):=by
 rw[show("notes 0 a 0:0:1/9999 r:": Str) ++"9998/9999"="notes 0 a 0:0:1/9999 r:9998/9999" by decide +kernel];exact KL
def Cu {wd:Str} (h:wd ="9997/9998"\/wd ="9998/9999"):(([("player a": Str),"bar 4/4 0","notes 0 a 0:0:1/9999 r:" ++ wd]).map (λz:Str=>⇑z+("\n": Str).length)).sum<=sizeLine/\(Str.join "\n" [("player a": Str),"bar 4/4 0","notes 0 a 0:0:1/9999 r:" ++ wd]).length+2<=sizeLine/\Txt.split (Str.join "\n" [("player a": Str),"bar 4/4 0","notes 0 a 0:0:1/9999 r:" ++ wd]) "\n"= [("player a": Str),"bar 4/4 0","notes 0 a 0:0:1/9999 r:" ++ wd]:=by
 let xe:∀r∈[("player a": Str),"bar 4/4 0","notes 0 a 0:0:1/9999 r:" ++ wd],10∉r.cps.toList/\⇑r<=10100:=by
  refine all_cons (by decide +kernel) (all_cons (by decide +kernel) (all_cons ?_ all_nil));rcases h with rfl | rfl <;> decide +kernel
 let a:=B1 (λx hx=>(xe x hx).2) (show 3<=1000 by decide);exact{a.1,a.2,qk (by simp) λx hx=>(xe x hx).1}
def Ma:rowOf (.aE (1,999)) ="upbeat 1/999":=by decide +kernel
def LP {c:Bool} {u:TT} {t1 t2:TS} {D:Ends} {U:St} {H:Hp} (P:St->Hp->Prop) (ha:∀N:St->Hp->Prop,(∀U H,P U H->N U H)->c=true->u U H λb H1=>if b=true then t1 {D with nx:=N} U H1 else t2 {D with nx:=N} U H1)
  (hb:∀N:St->Hp->Prop,(∀U H,P U H->N U H)->c=false->t2 {D with nx:=N} U H) (hN:∀U H,P U H->D.nx U H):if c=true then u U H (λb H1=>if b=true then t1 D U H1 else t2 D U H1) else(λ(b:Bool) H1=>if b=true then t1 D U H1 else t2 D U H1) false H:=by
 cases c with
 | true=>rw[yF rfl];exact ha D.nx hN rfl
 | false=>rw[yE (by simp)];show if false=true then _ else _;rw[yE (by simp)];exact hb D.nx hN rfl
def En {P:wO} {w:wQ} {d:wV} {n:Nat}:MeetsIn P w (Builtin.«dict.__len__» {[.ref d],[]}) (λ_ R s=>(∃o es ep,s.heap.get? d=some o/\o.data=.dict es ep/\es.size=n/\(d == sysModules)=false)/\R (.ok (.ret (.int n s.toks))) {s with toks:=s.toks+1}):=
 .of_wp λT R s ⟨⟨o,es,ep,ho,hdat,hn,hd⟩,h⟩=>by
  show wpAny _ _ (dictSize d >>= _) _ _ s;unfold dictSize;refine yj (yj (wpAny_dictEntries ho hdat (ym ?_)));refine yj (wpAny_pendingCount_other hd (wpAny_ret_mkInt ?_));rw[Nat.add_zero,hn];exact h
def rR {X:Cx}:cZ X (.builtin "len") (λxs H Q=>∃p kvs,xs=[.ref p]/\H p=some (.dT kvs)/\Q (.int (⇑kvs:Nat)) H):=by
 intro pins s U H xs us Q I r h;let⟨p,kvs,rfl,hp,q⟩:=h;let⟨u,rfl,rx⟩:=vals1 r;cases rx;let⟨z,hd,xs,rel,dd⟩:=LS I.aT hp;let ty:=dd.typeIs;let⟨o,es,ep,h1,h2,h3,h4,_⟩:=dd;let hl:es.size=⇑kvs:=(size_of_entries h4).trans rel.length.symm;rw[yt] at z;refine Calls.call_function_entry kind_len plain_len entry_len (args_len1 _) ?_;unfold Builtin.«len»;refine yj (m:=oneArg "len" _) (ym ?_);refine yj (m:=callSpecial? (.ref p) (Str.ofString "__len__")) (yP (name:=Str.ofString "__len__") ty F.slot_dict_len
  (call_meetsIn F.slot_dict_len ty F.entry_dict_len (F.args_dict_len_1 _) En {{(o),es,ep,h1,h3,hl,hd},?_}))
 refine yj (xo (ym ?_));refine yj (wpAny_letGo ?_);show wpAny _ _ (if((⇑kvs:Nat):Int)<0 then _ else _) _ _ _;rw[yE ()];show wpAny _ _ (if((⇑kvs:Nat):Int)≥2^63 then _ else _) _ _ _;rw[yE ()];exact yj (wpAny_mkInt (ym {_,rfl,.int _,H,I.tok _,{_,rfl},q}))
def MY {pls:List Str} {ms:List (Int×Int)} {x bad:Int×Int} (hx:ms[0]?=some x) (okp:jE pls) (okm:lj ms) (lb:ow bad) (lng:¬bad.1*(Lm.red x.1 x.2).2<(Lm.red x.1 x.2).1*bad.2) :
  RX {} 0 ((R0 pls ms).map rowOf++[rowOf (.aE bad)]) (.bad ⇑(R0 pls ms) "length"):=uF (Ft okp okm) (NG okp okm) (w5 (BA lb) (Ey lb okm) (J9 hx lng))
inductive jP (vs:List V) (H:Hp) (Q:VK) (E:XK):Prop
 | mk (p q:wV) (m:Int) (pls:List Str) (ms:List (Int×Int)) (x:Int×Int) (_:vs=[.ref p,.ref q,.int m]) (_:H p=some (.lst (rws (R0 pls ms)))) (_:H q=some (fw x)) (_:ms[0]?=some x) (_:jE pls) (_:lj ms) (_:0<=m) (_:∀H',au H H'->Q (.bl true) H')
def jX (B:Dk P w K T) (F:Cf K T.de):cG P w base 10 T.eE jP:=by
 nomatch T.eE,["_law_rows","_law_metre_here","_law_m","_law_length","_law_bad","_law_near","_law_row_here"]
 let⟨p,q,m,pls,ms,x,rfl,hp,hq,hx,okp,okm,m0,kk⟩:=h;let sl:=yt;let⟨x1,x2,_,x4,x5⟩:=j4 x (okm.all x (zy hx));let pl:=okp.len;let ml:=okm.len;refine{_,(ae (ck 3 qN (bx (cw T) hr T.cA (ag (b4 (pv 1) ah) (ag (b4 (pv 1) ah) af))))
  (ae (ck 4 qN (eF (bg (ag (pv 3) (ag (bx (gH T) hr T.iL (ag (bg (ag (pv 3) (ag (bB (ag ah (ag ah af))) af))) af)) (ag (bB (ag ah (ag ah af))) af)))) (az b8 (pv 2) ah)))
  (ae (ax (cv (bf (bx (dy T B F) hr T.dM (ag (cV yx yz yy i0 ay (ag (az cN (pv 0) (bg (ag (az bP ay (bx (cp T) hr T.bX (ag (pv 4) af))) af))) af)) (ag (c5 aq T.aP (ag (pv 0) af)) (ag ay af))))))
  (ai (aj fe))
  ak)
  (ae (ck 5 qN (bg (ag ay (ag ay (ag (az bP ay (eF (bg (ag ay (ag ay af))) (az b8 (az d5 (pv 2) ah) ah))) af)))))
  (ae (ax (PW.pt (d0 (ptr bE (az b8 (az d5 (pv 2) ah) ah) ah) (c7 (cv (bf (bx (dy T B F) hr T.dM (ag (cV yx yz yy i0 ay (ag (pv 5) af)) (ag ah (ag ay af)))))))))
  (ai (aj fe))
  ak)
  (ae (ax (PW.pt (d0 (ptr bE (az b8 (az d5 (pv 2) ah) ah) ah) (c7 (ptr fB (c5 rR T.aP (ag (aR (mK (eU T B F) (hr.mono ∅) rfl T.bA.g T.bA.F.kp T.bA.b .nil IK (ag (cV yx yz yy i0 ay (ag (pv 5) af)) af)) rfl) af)) ah))))
  (ai (aj fe))
  ak)
  (ae (ck 6 qN (az bP ay (bx (cp T) hr T.bX (ag (pv 3) af))))
  (ai (aj (bx (dy T B F) hr T.dM (ag (cV yx yz yy i0 ay (ag (az cN (pv 0) (bg (ag (pv 6) (ag ay af)))) af)) (ag (az cL (c5 aq T.aP (ag (pv 0) af)) ah) (ag ay af))))))))))))),?_}
 ac_rfl;exists _,_,rfl,(),(),(bp (n:=30) () ()).mono ∅,λe H1 s1 he=>?_;let pe:Pt 32 32 (Lm.red x.1 x.2):=Pt.red () () x2 x5;left
 skip
 refine{(by show 2<=sizeLine;ext),?_}
 intros p1 n1 s2 h1 H2
 left
 skip
 refine{(by show 2<=sizeLine;ext),?_}
 intros p2 n2 s3 h2 H3
 generalize er:Lm.red x.1 x.2=L at he pe;let l9:Pt 9999 9999 (1,9):=Pt.red (t:=1) (b:=9) ∅ ∅ ∅ ∅;let lL:ow L:=(pe.mono ∅ ∅).LO;let L1:=pe.p0;let L2':=pe.p1;let L3:=pe.p2;let L4:=pe.pos;let he3:=s3 _ _ (s2 _ _ he);left;refine{p2,_,[L,(1,9)],rfl,aD.of h2,aM (kc he3) (dH (kc (s3 _ _ h1))),(by show 2<=500;decide),(λy hy=>?_),λr H4 s4 h4=>?_}
 ·rcases zA.mp hy with rfl | hy
  ·exact lL
  ·rw[zv.mp hy];exact l9.LO
 let es:jL [L,(1,9)]=Lm.add L (1,9):=by
  show Lm.add (Lm.add (0,1) L) (1,9)=_;rw[show Lm.add (0,1) L=L by rw[Lm.add_comm];exact Lm.add_zero pe.rd]
 rw[es] at h4;let pa:Pt 9999 9999 (Lm.add L (1,9)):=by
  unfold Lm.add;exact Pt.red (by show 0<L.1*9+1*L.2;ext) (by show 0<L.2*9;ext) (by show L.1*9+1*L.2<=9999;ext) (by show L.2*9<=9999;ext)
 left
 skip
 refine{(by show 2<=sizeLine;ext),?_}
 intros p5 n5 s5 h5 H5
 left
 skip
 refine{(by show 3<=sizeLine;ext),?_}
 intros p6 n6 s6 h6 H6
 obtain⟨rb,bad,hb,hbad,lb,lng⟩:∃rb bad,Bu [V.ref e,V.ref r,V.ref p5] (m%3)=some (V.ref rb)/\H6 rb=some (fw bad)/\ow bad/\¬bad.1*L.2<L.1*bad.2:=by
  obtain c | c | c:m%3=0\/m%3=1\/m%3=2:=()
  ·rw[c];exact{e,L,rfl,s6 _ _ (s5 _ _ (s4 _ _ he3)),lL,Int.lt_irrefl _}
  ·rw[c]
   let ge:=Lm.Nw l9.rd pe.rd;rw[Lm.add_comm] at ge;exact{r,_,rfl,s6 _ _ (s5 _ _ h4),pa.LO,by rw[xk (Lm.add L (1,9)).1];rw[xk (Lm.add L (1,9)).1] at ge;ext}
  ·rw[c];exact{p5,(99,1),rfl,s6 _ _ h5,{Lm.Rd.of (t:=99) (b:=1) ∅ ∅,∅,∅,∅},by show¬99*L.2<L.1*1;ext}
 let s06:=((((s1.trans s2).trans s3).trans s4).trans s5).trans s6;exists p6,_,m%3,_,rfl,rfl,aD.of h6,hb,?_;let lbp:=lb.1.pos;let lb2:=lb.2;let lt:=fU (x:=bad) () () () ();exists rb,bad,rfl,hbad,(),(),(),(),?_;left
 skip
 refine{(by show 7+⇑(cR bad)<=sizeLine;ext),?_};left
 skip
 refine{(by show 1<=sizeLine;ext),?_}
 intros p7 n7 s7 h7 H7
 let s07:=s06.trans s7;let rl:⇑(R0 pls ms)<=14:=by rw[Ac];ext
 exists p,p7,_,_,rfl,rfl,aD.of (s07 _ _ hp),aD.of h7,(by rw[fC];show _+1<=_;ext),?_
 intros p8 n8 s8 h8 H8
 let h8:H8 p8=some (.lst (((R0 pls ms).map rowOf++[rowOf (.aE bad)]).map V.str)):=by rw[h8,<-w6,NV];rfl
 let⟨t1,t2,t3⟩:=vB (ext:=[rowOf (.aE bad)]) (NG okp okm) (pL (BA lb)) (by simp) (by show _+1<=_;ext);exists "\n",p8,_,rfl,rfl,aD.of h8,t1,?_;let s08:=s07.trans s8;exists p,_,rfl,.inl (aD.of (s08 _ _ hp)),?_;exists _,_,⇑(R0 pls ms),(by rw[fC];rfl),t2,(by rw[t3];exact MY hx okp okm lb (by rw[er];exact lng)),λH9 s9=>?_;let s09:=s08.trans s9;left
 skip
 refine{(by show 2<=sizeLine;ext),?_}
 intros p10 n10 s10 h10 H10
 obtain⟨wd,hwd,cwd⟩:∃wd:Str,Bu [V.str "9997/9998",V.str "9998/9999"] (m/3%2)=some (V.str wd)/\((m/3%2=0/\wd ="9997/9998")\/(m/3%2=1/\wd ="9998/9999")):=by
  obtain c | c:m/3%2=0\/m/3%2=1:=()
  ·rw[c];exact{_,rfl,.inl {(rfl),rfl}}
  ·rw[c];exact{_,rfl,.inr {(rfl),rfl}}
 let wl:⇑wd=9:=by rcases cwd with⟨_,rfl⟩ | ⟨_,rfl⟩ <;> rfl
 exists p10,_,m/3%2,_,rfl,rfl,aD.of h10,hwd,?_;left
 skip
 refine{(by show 23+⇑wd<=sizeLine;ext),?_};left
 skip
 refine{(by show 3<=sizeLine;ext),?_}
 intros p11 n11 s11 h11 H11
 let s011:=(s09.trans s10).trans s11;left;let h11:H11 p11=some (.lst ([("player a": Str),"bar 4/4 0","notes 0 a 0:0:1/9999 r:" ++ wd].map V.str)):=h11;refine LP (λU H'=>U=[some (.ref p),some (.ref q),some (.int m),some (.ref e),some (.ref rb),some (.ref p11),none]/\au H11 H') (λN hN c1=>?_) (λN hN c1=>?_) ?_
 ·let c1:m/3%2=0:=V.int.inj (zX c1)
  obtain rfl:wd ="9997/9998":=by
   rcases cwd with⟨_,z⟩ | ⟨z,_⟩
   ·exact z
   ·ext
  let⟨u1,u2,u3⟩:=Cu (.inl rfl);exists "\n",p11,_,rfl,rfl,aD.of h11,u1,?_;exists _,_,2,rfl,u2,(by rw[u3];exact MS),λH12 s12=>?_;change hN _ _ {(rfl),s12}
 ·left
  exact hN _ _ {rfl,λ_ _ z=>z}
 rintro U H12 ⟨rfl,s12⟩;left;let h12:=s12 _ _ h11;refine LP (λU H'=>U=[some (.ref p),some (.ref q),some (.int m),some (.ref e),some (.ref rb),some (.ref p11),none]/\au H12 H') (λN hN c1=>?_) (λN hN c1=>?_) ?_
 ·let c1:m/3%2=1:=V.int.inj (zX c1)
  obtain rfl:wd ="9998/9999":=by
   rcases cwd with⟨z,_⟩ | ⟨_,z⟩
   ·ext
   ·exact z
  let⟨u1,u2,u3⟩:=Cu (.inr rfl);exists "\n",p11,_,rfl,rfl,aD.of h12,u1,?_;left;refine{_,.ok (S1 ["a"] [(4,4)] (lF (9998,9999))),rfl,u2,(by rw[u3];exact MR),λS eS a o H13 sc s13 fr=>?_,λi w z=>nomatch z};cases eS;let⟨ub,jm,ho,hub,hjm⟩:=sc.obj;exists a,_,o.dx,_,_,rfl,ho,F.cls,F.av,rfl,?_;exists o.no,_,rfl,sc.no.1,?_;let nl:⇑(o.ns.map V.ref)=1:=by rw[za,fV sc.no.2,za];rfl
  rw[show(((S1 ["a"] [(4,4)] (lF (9998,9999))).av.map λx=>kN x.1).zip (o.ns.map V.ref)).length=1 by rw[xi,za,nl];rfl];change hN _ _ {(rfl),s13}
 ·left
  exact hN _ _ {rfl,λ_ _ z=>z}
 rintro U H13 ⟨rfl,s13⟩;let s013:=(s011.trans s12).trans s13;let he13:=(s13 _ _ (s12 _ _ (s11 _ _ (s10 _ _ (s9 _ _ (s8 _ _ (s7 _ _ (s6 _ _ (s5 _ _ (s4 _ _ he3))))))))))
 let lL2:=lL.2;let tl:=fU (x:=L) () () () ();exists e,L,rfl,he13,(),(),(),(),?_;left
 skip
 refine{(by show 14+⇑(cR L)<=sizeLine;ext),?_};left
 skip
 refine{(by show 2<=sizeLine;ext),?_}
 intros p14 n14 s14 h14 H14
 let s014:=s013.trans s14;exists p,p14,_,_,rfl,rfl,aD.of (s014 _ _ hp),aD.of h14,(by rw[fC];show _+2<=_;ext),?_
 intros p15 n15 s15 h15 H15
 let⟨tdl,rxl⟩:=Jd hx okp okm er lL;let h15:H15 p15=some (.lst (((R0 pls ms++[Told.av 0 "a" [(some (0,0),L)]]).map rowOf++[rowOf (.aE (1,999))]).map V.str)):=by
  rw[h15,zg (l₁:=R0 pls ms),zg,zg,zC,zf,yd,Ib,Ma];rfl
 let⟨v1,v2,v3⟩:=vB (ext:=[rowOf (.aE (1,999))]) tdl (pL (BA {Lm.Rd.of (t:=1) (b:=999) ∅ ∅,∅,∅,∅})) (by simp) (by rw[ze];show _+1+1<=_;ext);exists "\n",p15,_,rfl,rfl,aD.of h15,v1,?_;let s015:=s014.trans s15;exists p,_,rfl,.inl (aD.of (s015 _ _ hp)),?_;left;refine{_,_,⇑(R0 pls ms)+1,(by rw[fC];rfl),v2,(by rw[v3];exact rxl),λH16 s16=>kk _ (s015.trans s16)}
def JM (x:Int×Int):rowOf (.bar (km x)) ="bar " ++ dec x.1 ++"/" ++ dec x.2 ++" 0":=by
 show "bar" ++" " ++ (dec x.1 ++"/" ++ dec x.2 ++" " ++ dec 0)=_;rw[show dec 0=("0": Str) by decide +kernel,show("bar ": Str) ="bar" ++" " by decide +kernel,show(" 0": Str) =" " ++"0" by decide +kernel];simp only[<-oo]
def MF {np:Nat} (h1:1<=np) (h4:np<=4):jE ((List.range np).map λj=>nJ "a" (j+1)):=by
 obtain rfl | rfl | rfl | rfl:np=1\/np=2\/np=3\/np=4:=()
 ·exact{by decide +kernel,by decide +kernel,∅,jD {by unfold dk;decide +kernel,by decide +kernel} t9}
 ·exact{by decide +kernel,by decide +kernel,∅,jD {by unfold dk;decide +kernel,by decide +kernel} (jD {by unfold dk;decide +kernel,by decide +kernel} t9)}
 ·exact{by decide +kernel,by decide +kernel,∅,jD {by unfold dk;decide +kernel,by decide +kernel} (jD {by unfold dk;decide +kernel,by decide +kernel} (jD {by unfold dk;decide +kernel,by decide +kernel} t9))}
 ·exact{by decide +kernel,by decide +kernel,∅,jD {by unfold dk;decide +kernel,by decide +kernel} (jD {by unfold dk;decide +kernel,by decide +kernel} (jD {by unfold dk;decide +kernel,by decide +kernel} (jD {by unfold dk;decide +kernel,by decide +kernel} t9)))}
def OB {nb:Nat} (f:Nat->Int) (h:nb<=10):lj ((List.range nb).map λj=>CB (f j)):={by rw[za,zO];exact h,λx hx=>by let⟨j,_,rfl⟩:=zE.mp hx;exact KN _}
structure Bk (pls:List Str) (ts:List Told) (S:cF) (ls:List (Int×Int)):Prop where
 runs:Runs {} ts S
 td:∀t∈ts,TD t
 pl:S.players=pls
 bq:⇑S.bq=⇑ls
 av:S.av=[]
 holds:S.holds=[]
 OD:Ll S
 sz:pI S
 len:⇑ts<=15
 lb:⇑ls<=10
 ls:∀b l,ls[b]?=some l->S.len b=l/\Pt 32 96 l
def QA {pls:List Str} {ms:List (Int×Int)} (okp:jE pls) (okm:lj ms):Bk pls (R0 pls ms) (S0 pls ms) (ms.map λx=>Lm.red x.1 x.2) where
 runs:=Ft okp okm
 td:=NG okp okm
 pl:=rfl
 bq:=by show(ms.map km).length=_;rw[za,za]
 av:=rfl
 holds:=rfl
 OD:=IY okm
 sz:=Qx okp okm
 len:=by rw[Ac];have:=okp.len;have:=okm.len;ext
 lb:=by rw[za];exact okm.len
 ls:=λb l h=>by
  rw[zH] at h;let⟨x,hx,rfl⟩:=Option.map_eq_some_iff.mp h;let⟨x1,x2,_,x4,x5⟩:=j4 x (okm.all x (zy hx));exact{qX hx,Pt.red () () x2 ()}
def NW:∀x∈oN,(Lm.red x.1 (x.2*3)).1*(Lm.red x.1 x.2).2<(Lm.red x.1 x.2).1*(Lm.red x.1 (x.2*3)).2:=by decide +kernel
def LI {ms:List (Int×Int)} {x:Int×Int} (hx:ms[0]?=some x) (okm:lj ms):Pt 32 96 (Lm.red x.1 (x.2*3)):=by
 let⟨x1,x2,_,x4,x5⟩:=j4 x (okm.all x (zy hx));exact Pt.red () () x2 ()
def QW {pls:List Str} {ms:List (Int×Int)} {x:Int×Int} (hx:ms[0]?=some x) (okp:jE pls) (okm:lj ms):Bk pls (R0 pls ms++[.aE (Lm.red x.1 (x.2*3))]) {S0 pls ms with aE:=some (Lm.red x.1 (x.2*3))} ((ms.map λx=>Lm.red x.1 x.2).set 0 (Lm.red x.1 (x.2*3))):=by
 let pt:=LI hx okm;let lo:ow (Lm.red x.1 (x.2*3)):=(pt.mono ∅ ∅).LO;let k:=QA okp okm;let lt:=NW x (okm.all x (zy hx));let hn:⇑ms≠0:=λz=>by rw[yi.mp z] at hx;cases hx
 refine{k.runs.app (B0 rfl (by show(ms.map km).length≠0;rw[za];exact hn) (by rw[qX hx];exact lt) rfl (Ey (pls:=pls) lo okm).1 k.OD (rg rfl) k.sz),λt ht=>?_,rfl,?_,rfl,rfl,k.OD,k.sz,?_,?_,λb l h=>?_}
 ·rcases zD.mp ht with ht | ht
  ·exact k.td t ht
  ·rw[zv.mp ht];exact BA lo
 ·rw[List.length_set];exact k.bq
 ·rw[ze,Ac];have:=okp.len;have:=okm.len;show _+1<=15;ext
 ·rw[List.length_set];exact k.lb
 ·by_cases c:b=0
  ·subst c
   rw[List.getElem?_set_self (by rw[za];ext)] at h;cases h;exact{(rfl),pt}
  ·rw[List.getElem?_set_ne (Ne.symm c)] at h
   refine{?_,(k.ls b l h).2};show(if b=0 then _ else _)=_;rw[yE c];exact(k.ls b l h).1
def Bk.nb {pls:List Str} {ts:List Told} {S:cF} {ls:List (Int×Int)} (k:Bk pls ts S ls) {b:Nat} {l:Int×Int} (h:ls[b]?=some l):b<⇑ls/\NB (b:Int):=by
 have:=(zt.mp h).1;have:=k.lb;exact{(()),(),()}
def JK {pls:List Str} {ts:List Told} {S:cF} {ls:List (Int×Int)} (k:Bk pls ts S ls) (okp:jE pls) {b:Nat} {l:Int×Int} (h:ls[b]?=some l) {p:Str} (hp:p∈pls) {its:List Item} (hi:∀it∈its,pJ it) (al:its.all (λit=>it.1.isNone)=false) (il:⇑its<=42):TD (.av b p its):=
 pZ (k.nb h).2 (okp.nm p hp) hi al il
def JL {pls:List Str} {ts:List Told} {S:cF} {ls:List (Int×Int)} (k:Bk pls ts S ls) (okp:jE pls) {b:Nat} {l:Int×Int} (h:ls[b]?=some l) {p:Str} (hp:p∈pls) {its:List Item} (hi:∀it∈its,pJ it) (al:its.all (λit=>it.1.isNone)=false) (il:⇑its<=42) {w:Str}
  (hw:(if gW its≠l then some ("length": Str) else if 40<⇑its then some ("many": Str) else none)=some w):RX {} 0 (ts.map rowOf++[rowOf (.av b p its)]) (.bad ⇑ts w):=by
 refine uF k.runs k.td (w5 (JK k okp h hp hi al il) {(),(),λit hit=>(hi it hit).1,k.OD} ?_);rw[FH (by rw[k.av];exact zB) (by rw[k.pl];exact hp) (by rw[k.bq];have:=(k.nb h).1;ext),xH,(k.ls b l h).1];exact hw
structure vw (pls:List Str) (ls:List (Int×Int)) (x:(Int×Str)×List Item):Prop where
 b:∃b:Nat,x.1.1=b/\ls[b]?=some (gW x.2)
 p:x.1.2∈pls
 l:⇑x.2<=40
 it:∀it∈x.2,pJ it
 al:x.2.all (λit=>it.1.isNone)=false
noncomputable abbrev MP (x:(Int×Str)×List Item):Told:=.av x.1.1 x.1.2 x.2
def FQ {pls:List Str} {ts:List Told} {S:cF} {ls:List (Int×Int)} (k:Bk pls ts S ls) (okp:jE pls) {x:(Int×Str)×List Item} (g:vw pls ls x):TD (MP x):=by
 let⟨b,e,h⟩:=g.b;let l:=g.l;show TD (.av x.1.1 _ _);rw[e];exact JK k okp h g.p g.it g.al ()
def LU {pls:List Str} {ts:List Told} {S:cF} {ls:List (Int×Int)} (k:Bk pls ts S ls) (okp:jE pls) {nt:List ((Int×Str)×List Item)} (nd:(nt.map (·.1)).Nodup) (hn:⇑nt<=900) (g:∀x∈nt,vw pls ls x):RX {} 0 (ts.map rowOf++nt.map λx=>rowOf (MP x)) (.ok {S with av:=nt}):=by
 let r:=lR (l:=nt) (S:=S) (by rw[k.av];exact nd) (by rw[k.av];show ⇑nt<=_;ext) k.OD (λx hx=>by
  let⟨b,e,h⟩:=(g x hx).b;have:=k.nb h;refine{(),by rw[k.bq];ext,by rw[k.pl];exact(g x hx).p,(g x hx).l,λit hit=>((g x hx).it it hit).1,?_};rw[e,xH];exact(k.ls b _ h).1.symm) (rg k.holds) k.sz
 rw[k.av] at r;let r2:=uF (rest:=[]) (k.runs.app r) (λt ht=>by
  rcases zD.mp ht with ht | ht
  ·exact k.td t ht
  ·let⟨x,hx,rfl⟩:=zE.mp ht
   exact FQ k okp (g x hx)) .nil
 rw[zQ,zg,zw] at r2;exact r2
theorem JQ {H:Hp}:∀{ps:List (Int×Int)} {us vs:List V},ar H (ps.map dL) us->ar H (ps.map dL) vs->∀z∈us.zip vs,Al H 2 z.1 z.2
 | [],us,vs,h,_,z,hz=>by unfold ar at h;subst h;cases hz
 | x::ps,us,vs,h,k,z,hz=>by
  unfold ar at h k;let⟨u,ur,rfl,h1,h2⟩:=h;let⟨v,vr,rfl,k1,k2⟩:=k;rcases zA.mp hz with rfl | hz
  ·cases dF (o:=some x) h1 with
   | ref a1=>
   cases dF (o:=some x) k1 with
   | ref a2=>
   refine .inr (.inr {_,_,true,_,_,rfl,rfl,a1,a2,rfl,(by show 2<=1000000;decide),jD ?_ (jD ?_ t9)})
   ·exact .inl {_,rfl,rfl}
   ·exact .inl {_,rfl,rfl}
  ·exact JQ h2 k2 z hz
def OY {H:Hp} {ps:List (Int×Int)} {us vs:List V} {p q:wV} (h1:H p=some (.lst us)) (h2:H q=some (.lst vs)) (i1:ar H (ps.map dL) us) (i2:ar H (ps.map dL) vs) (hl:⇑ps<=1000):Al H 3 (.ref p) (.ref q):=by
 let a:=aI i1;let b:=aI i2;exact .inr (.inr {p,q,false,us,vs,rfl,rfl,h1,h2,(),(),JQ i1 i2})
def EO {ns:List Int} {n:Nat} (h:n<=14):∃cs:List Int,gm (ns.map V.int) (some 2) (some (2+(n:Int)))=cs.map V.int/\⇑cs<=n:=by
 unfold gm;rw[<-List.map_drop,<-List.map_take];refine{_,rfl,?_};rw[zN,xj];let e1:HT.c0 ⇑(ns.map V.int) ⇑(ns.map V.int) (some (2+(n:Int)))<=2+n:=by unfold HT.c0;simp;ext
 let e2:HT.c0 ⇑(ns.map V.int) 0 (some 2)=min 2 ⇑ns:=by unfold HT.c0;simp
 rw[za] at e1 e2;rw[za,e2];ext
def key_ne {pls:List Str} {i j:Nat} {p:Str} (nd:pls.Nodup) (h:pls[i%⇑pls]?=some p) (k:pls[j%⇑pls]?=some p) (e:i/⇑pls=j/⇑pls):i=j:=by
 let q:i%⇑pls=j%⇑pls:=by
  let⟨a,ea⟩:=zt.mp h;let⟨b,eb⟩:=zt.mp k;exact List.getElem_inj (h₀:=a) (h₁:=b) nd |>.mp (by rw[ea,eb])
 rw[<-Nat.div_add_mod i ⇑pls,<-Nat.div_add_mod j ⇑pls,e,q]
def Iv (H0:Hp) (a dp dm p5 dl D C:wV) (f g:Int) (pls:List Str) (ls:List (Int×Int)) (i:Nat) (U:St) (H:Hp):Prop:=∃(nt:List ((Int×Str)×List Item)) (u9 u10 u11 u12 u13 u14 u15 u16 u17:Option V),U=[some (.ref a),some (.int f),some (.int g),some (.ref dp),some (.ref dm),some (.ref p5),some (.ref dl),some (.ref D),some (.ref C),u9,u10,u11,u12,u13,u14,u15,u16,u17]/\au H0 H/\H D=some (.lst (nt.map λx=>V.str (rowOf (MP x))))/\(nt.map (·.1)).Nodup/\⇑nt<=i/\∀x∈nt,vw pls ls x/\∃j,j<i/\x.1.1=((j/⇑pls:Nat):Int)/\pls[j%⇑pls]?=some x.1.2
def Jb (F:Cf K T.de) {H0 H:Hp} {a dp dm p5 dl D C:wV} {f g:Int} {pls:List Str} {ts:List Told} {S:cF} {ls:List (Int×Int)} {vl:List V} {i:Nat} {c:Int} {Z:Ends} {u11 u12 u13 u14 u15 u16 u17:Option V} {nt:List ((Int×Str)×List Item)}
  (okp:jE pls) (bk:Bk pls ts S ls) (hpl:H0 dp=some (.lst (pls.map V.str))) (hr:H0 p5=some (.lst (rws ts))) (hl:H0 dl=some (.lst vl)) (il:ar H0 (ls.map dL) vl) (nD:H0 D=none) (hi:i<⇑pls*⇑ls) (i14:i<14)
  (s0:au H0 H) (hD:H D=some (.lst (nt.map λx=>V.str (rowOf (MP x))))) (nd:(nt.map (·.1)).Nodup) (nl:⇑nt<=i) (gn:∀x∈nt,vw pls ls x/\∃j,j<i/\x.1.1=((j/⇑pls:Nat):Int)/\pls[j%⇑pls]?=some x.1.2)
  (hN:∀U H,Iv H0 a dp dm p5 dl D C f g pls ls (i+1) U H->Z.nx U H) :
  (nu (N4 11 12 (aF (eG (rI Ls λi j=>V.int (i/j)) (aK 9) (uB (λxs H Q=>∃p ys,xs=[V.ref p]/\(aD K H p ys\/cx K H p ys)/\Q (V.int (⇑ys:Int)) H) (aF (aK 3) bK))) (aF (eG (Iq K) (aK 3) (eG (rI (λx j=>0<j) λi j=>V.int (i%j)) (aK 9) (uB (λxs H Q=>∃p ys,xs=[V.ref p]/\(aD K H p ys\/cx K H p ys)/\Q (V.int (⇑ys:Int)) H) (aF (aK 3) bK)))) bK))) (nu (jK (cy lB [] E0 (aF (eG (Iq K) (aK 6) (aK 11)) (aF (cy eR [] E0 (aF (aK 10) (aF (aK 9) bK))) bK))) (bH 13)) (nu (jK (cy (jQ K) [] E0 (aF (aK 13) (aF (cy eR [] E0 (aF (aK 10) (aF (eG (Bs λi j=>V.int (i+j)) (aK 9) (tC (V.int 50))) bK))) bK))) (bH 14)) (nu (jK (cy oG [] E0 (aF (aK 11) (aF (aK 12) (aF (aK 14) (aF (cy eR [] E0 (aF (aK 10) (aF (eG (Bs λi j=>V.int (i+j)) (aK 9) (tC (V.int 90))) bK))) bK))))) (bH 15)) (nu (jK (N9 K "str" (rJoin K) (tC (V.str ("\n": Str))) (aF (eG (Iu K) (aK 5) (BD (aF (aK 15) bK))) bK)) (bH 16)) (sD (oz (eG (Oj K) (cy (oF K) [] E0 (aF (aK 14) bK)) (eG (Iq K) (aK 6) (aK 11)))) (sD (HP (tB (cy gZ [] E0 (aF (aK 16) (aF (uB (λxs H Q=>∃p ys,xs=[V.ref p]/\(aD K H p ys\/cx K H p ys)/\Q (V.int (⇑ys:Int)) H) (aF (aK 5) bK)) (aF (tC (V.str ("length": Str))) bK)))))) (DO (tC (V.bl false))) uA) (sD (oz (eG (Bs λi j=>V.bl (decide (j<i))) (uB (λxs H Q=>∃p ys,xs=[V.ref p]/\(aD K H p ys\/cx K H p ys)/\Q (V.int (⇑ys:Int)) H) (aF (aK 14) bK)) (tC (V.int 40)))) (sD (HP (tB (cy gZ [] E0 (aF (aK 16) (aF (uB (λxs H Q=>∃p ys,xs=[V.ref p]/\(aD K H p ys\/cx K H p ys)/\Q (V.int (⇑ys:Int)) H) (aF (aK 5) bK)) (aF (tC (V.str ("many": Str))) bK)))))) (DO (tC (V.bl false))) uA) (nu (jK (Lx (Gn K (cy (gX T.de T.aS) [] E0 (aF (aK 16) bK)) ("notes": Str)) (Gm (aF (aK 11) (aF (aK 12) bK)))) (bH 17)) (nu (sD (HP (tB (cy (dq (0+1+1+1)) [] E0 (aF (jJ (List.map (λx=>none) [("_law_item": Str)]++List.map some []) (FO K (aK 17)) (bH 0) sC (eG (nO K) (aK 0) (tC (V.int 1)))) (aF (aK 14) bK))))) (DO (tC (V.bl false))) uA) (HR (N9 K "list" Fx (aK 7) (aF (aK 15) bK)))))))))))) Z [some (.ref a),some (.int f),some (.int g),some (.ref dp),some (.ref dm),some (.ref p5),some (.ref dl),some (.ref D),some (.ref C),some (.int i),some (.int c),u11,u12,u13,u14,u15,u16,u17] H:=by
 let sl:=yt;let p4:=okp.len;let p0:0<⇑pls:=Nat.pos_of_ne_zero λz=>by rw[z] at hi;ext
 let hpl1:=s0 _ _ hpl;let hr1:=s0 _ _ hr;let hl1:=s0 _ _ hl;let bi:i/⇑pls<⇑ls:=Nat.div_lt_of_lt_mul hi;obtain⟨b,eb⟩:∃b,b=i/⇑pls:={_,rfl}
 obtain⟨pl,hpi⟩:∃pl,pls[i%⇑pls]?=some pl:={_,zb (wF _ p0)}
 let inp:pl∈pls:=zy hpi;let vll:⇑vl=⇑ls:=aI il;obtain⟨v0,hv0⟩:∃v,vl[b]?=some v:={_,zb (show b<⇑vl by ext)}
 let⟨l,hlb,ib⟩:=cX (il.mono s0) hv0;obtain⟨q,rfl,hq⟩:∃q,v0=.ref q/\H q=some (fw l):=by
  cases dF (o:=some l) ib with
  | ref h8=>exact{_,rfl,h8}
 let pt:=(bk.ls b l hlb).2;let bnb:=bk.lb;let pl1:=(okp.nm pl inp).2;let hlen:(⇑(pls.map V.str):Int)=(⇑pls:Int):=by rw[za]
 exists dp,_,rfl,.inl (aD.of hpl1),?_;exists{(()),()},?_;exists dp,_,rfl,.inl (aD.of hpl1),?_;exists (),?_;left;let hat:Bu (pls.map V.str) ((i:Int)%(⇑(pls.map V.str):Int))=some (.str pl):=by rw[hlen,<-Int.natCast_emod];exact aQ (by rw[zH,hpi];rfl)
 let ei:(i:Int)/(⇑(pls.map V.str):Int)=(b:Int):=by rw[hlen,eb,Int.natCast_ediv]
 refine{dp,_,_,_,rfl,rfl,aD.of hpl1,hat,?_};refine Exists.intro (V.int b) (Exists.intro (V.str pl) (And.intro (by show [V.int ((i:Int)/(⇑(pls.map V.str):Int)),V.str pl]=_;rw[ei]) ?_));let hmb:∀k,0<=mixed c k/\mixed c k<4294967296:=λk=>{zr _ ∅,Int.lt_trans (zm _ (show(0:Int)<2147483399 by decide)) ∅}
 exists dl,_,(b:Int),_,rfl,rfl,aD.of hl1,aQ hv0,?_;exists c,_,rfl,(),(),?_;exists q,l,_,rfl,hq,pt,(hmb _).1,(hmb _).2,λp1 us1 ps1 H1 s1 h1 il1 ok1=>?_;exists c,_,rfl,(),(),?_;exists p1,us1,ps1,_,rfl,h1,il1,ok1,(hmb _).1,λp2 us2 ps2 H2 s2 h2 il2 JY=>?_;exists c,_,rfl,(),(),?_;exists(b:Int),_,pl,p2,us2,ps2,rfl,(),(),pl1,h2,il2,JY,(hmb _).1,λits H3 e3 iok al s3=>?_;let s13:=(s1.trans s2).trans s3;let s03:=s0.trans s13;let itl:⇑its=⇑ps2:=by rw[<-e3,za]
 let o2:=JY.len;exists(by show 1<=sizeLine;ext),?_
 intros p4' n4 s4 h4 H4
 let bl:=bk.len;exists p5,p4',_,_,rfl,rfl,aD.of (s4 _ _ (s03 _ _ hr)),aD.of h4,(by rw[fC];show _+1<=_;ext),?_
 intros p6 n6 s6 h6 H6
 let h6:H6 p6=some (.lst ((ts.map rowOf++[rowOf (.av b pl its)]).map V.str)):=by rw[h6,<-w6];rfl
 let⟨t1,t2,t3⟩:=vB (ext:=[rowOf (.av b pl its)]) bk.td (pL (JK bk okp hlb inp iok al ())) (by simp) (by show _+1<=_;ext);exists "\n",p6,_,rfl,rfl,aD.of h6,t1,?_;let s36:=s4.trans s6;let s26:=s3.trans s36;let s06:=s03.trans s36;let h26:=s26 _ _ h2;let il6:=il2.mono s26;exists p2,us2,ps2,rfl,aD.of h26,il6,(),(λx hx=>(JY.all x hx).LO),λr H7 s7 h7=>?_;let s07:=s06.trans s7;let hq7:=s7 _ _ (s36 _ _ (s13 _ _ hq));exists dl,_,(b:Int),_,rfl,rfl,aD.of (s07 _ _ hl),aQ hv0,?_;exists r,q,_,_,rfl,rfl,.inr {cx.of h7,cx.of hq7},.inr (.inr {(rfl),rfl}),?_;let hD7:H7 D=_:=s7 _ _ (s36 _ _ (s13 _ _ hD));let hr7:=s07 _ _ hr;let esum:gW its=jL ps2:=by rw[Mr,e3]
 left;let go:∀U H',(∃u16 u17,U=[some (.ref a),some (.int f),some (.int g),some (.ref dp),some (.ref dm),some (.ref p5),some (.ref dl),some (.ref D),some (.ref C),some (.int i),some (.int c),some (V.int b),some (.str pl),some (.ref p1),some (.ref p2),some (.str (rowOf (.av b pl its))),u16,u17])->au H7 H'->Z.nx U H':=λU H' ⟨_,_,e⟩ s8=>hN U H' {nt,_,_,_,_,_,_,_,_,_,e,s07.trans s8,s8 _ _ hD7,nd,(),λx hx=>by
  let⟨x1,j,x2,x3⟩:=gn x hx;exact{(x1),j,(),x3}}
 by_cases es:jL ps2=l
 ·refine bG (by rw[es,zd rfl];rfl) ?_
  exists p2,_,rfl,.inl (aD.of (s7 _ _ h26)),?_;let ul2:=aI il2;left
  by_cases c40:40<⇑us2
  ·refine bF (zd ()) ?_
   exists p5,_,rfl,.inl (aD.of hr7),?_;exists _,_,⇑ts,(by rw[fC];rfl),t2,(by rw[t3];exact JL bk okp hlb inp iok al () (by rw[yE (λz=>z (by rw[esum];exact es)),yF ()])),λH8 s8=>?_;change go _ _ {_,_,rfl} s8
  ·refine bG (zc ()) ?_
   left;let g0:vw pls ls (((b:Int),pl),its):={{b,rfl,by show ls[b]?=some (gW its);rw[esum,es];exact hlb},inp,(by show ⇑its<=40;ext),iok,al}
   let rx:=LU bk okp (nt:=[(((b:Int),pl),its)]) (by simp) (by show 1<=900;decide) (jD g0 t9);refine{_,.ok {S with av:=[(((b:Int),pl),its)]},rfl,t2,(by rw[t3];exact rx),λS' eS a' o H8 sc s8 fr=>?_,λi w z=>nomatch z};cases eS;let⟨ub,jm,ho,hub,hjm⟩:=sc.obj;let⟨n0,tl,vs0,e0,hn0,in0,et⟩:=sc.no.2;let et:tl=[]:=et;let hno:H8 o.no=some (.dT [(kN ((b:Int),pl),.ref n0)]):=by have:=sc.no.1;rw[e0,et] at this;exact this
   exists a',_,o.dx,_,_,rfl,ho,F.cls,F.av,rfl,?_;exists(by show 2<=sizeLine;ext),?_
   intros p9 n9 s9 h9 H9
   let dg:oy H9 o.no (.ref p9) (some (.ref n0)):=by
    have:=oy.t (k:=kN ((b:Int),pl)) (s9 _ _ hno) h9;rw[show cS [(kN ((b:Int),pl),V.ref n0)] (kN ((b:Int),pl))=some (.ref n0) by simp[cS]] at this;exact this
   refine{o.no,.ref n0,rfl,dg,?_};let hn9:=s9 _ _ hn0;exists{_,aD.of hn9},?_;let⟨zs,f1,f2,f3⟩:=kL (xs:=its) (in0.mono s9);let zl:⇑zs=⇑its:=by rw[<-f1,za]
   refine gp (enc:=λz:Item×V=>z.2) (ws:=zs) (λz=>dL z.1.2) (λU=>∃v,U=[v]) () (by rw[f2];exact aD.of hn9) {(none),rfl} ?_ ?_
   ·rintro⟨it,v⟩ U H10 R hz s10 ⟨_,rfl⟩ rr
    let⟨ia,pv,lv,rfl,hia,_,ilv⟩:=item_at (Is.mono s10 (f3 _ hz));change rr _ _ _ (au.refl _) ilv {_,rfl}
   intro d10 v10 H10 s10 _ h10 i10;let i10:ar H10 (ps2.map dL) v10:=by rw[<-e3,<-f1,zw,zw];exact i10
   let s710:=(s8.trans s9).trans s10;exists _,_,rfl,OY h10 (s710 _ _ (s7 _ _ h26)) i10 (il6.mono (s7.trans s710)) (),λH11 s11=>?_;let s711:=s710.trans s11;let hD11:=s711 _ _ hD7;exists .inl {rfl,_,aD.of hD11},?_;exists D,_,_,rfl,rfl,hD11,(by rw[za];ext),?_;left;refine hN _ _ {nt++[(((b:Int),pl),its)],_,_,_,_,_,_,_,_,_,rfl,λbb u hb=>?_,?_,?_,?_,?_}
   ·rw[ao (λz=>by rw[z,nD] at hb;cases hb)];exact s711 _ _ (s07 _ _ hb)
   ·rw[aA,zg];rfl
   ·rw[zg,zP]
    refine{nd,by simp,λk hk k' hk' e=>?_};let⟨x,hx,rfl⟩:=zE.mp hk;let⟨_,j,j1,j2,j3⟩:=gn x hx;rw[zv.mp hk'] at e;let e1:x.1.1=(b:Int):=yQ Prod.fst e;let e2:x.1.2=pl:=yQ Prod.snd e;have:=key_ne okp.nd (i:=i) (j:=j) hpi (by rw[j3,e2]) ();ext
   ·rw[ze];show _+1<=_;ext
   ·intro x hx
    rcases zD.mp hx with hx | hx
    ·let⟨x1,j,x2,x3⟩:=gn x hx
     exact{(x1),j,(),x3}
    ·rw[zv.mp hx]
     exact{g0,i,(),by rw[eb],hpi}
 ·refine bF (by rw[zc (λz=>es (Prod.ext (by injection z with z1 z2;exact V.int.inj z1) (by injection z with z1 z2;injection z2 with z3 z4;exact V.int.inj z3)))];rfl) ?_
  exists p5,_,rfl,.inl (aD.of hr7),?_;exists _,_,⇑ts,(by rw[fC];rfl),t2,(by rw[t3];exact JL bk okp hlb inp iok al () (by rw[yF (λz=>es (by rw[<-esum];exact z))])),λH8 s8=>?_;change go _ _ {_,_,rfl} s8
def I0 (F:Cf K T.de) {H8:Hp} {a dp dm p5 dl:wV} {f g:Int} {pls:List Str} {ts:List Told} {S:cF} {ls:List (Int×Int)} {vl vm:List V} {ns:List Int} {Z:Ends} {tb:TS}
  (okp:jE pls) (bk:Bk pls ts S ls) (ha:aD K H8 a (ns.map V.int)) (hpl:H8 dp=some (.lst (pls.map V.str))) (hdm:H8 dm=some (.lst vm)) (vml:⇑vm=⇑ls) (hr:H8 p5=some (.lst (rws ts))) (hl:H8 dl=some (.lst vl)) (il:ar H8 (ls.map dL) vl) (p0:0<⇑pls) (l0:0<⇑ls)
  (htb:∀{H0 H:Hp} {D C:wV} {i:Nat} {c:Int} {Z:Ends} {u11 u12 u13 u14 u15 u16 u17:Option V} {nt:List ((Int×Str)×List Item)},H0 dp=some (.lst (pls.map V.str))->H0 p5=some (.lst (rws ts))->H0 dl=some (.lst vl)->ar H0 (ls.map dL) vl->H0 D=none->i<⇑pls*⇑ls->i<14->au H0 H->H D=some (.lst (nt.map λx=>V.str (rowOf (MP x))))->(nt.map (·.1)).Nodup->⇑nt<=i->(∀x∈nt,vw pls ls x/\∃j,j<i/\x.1.1=((j/⇑pls:Nat):Int)/\pls[j%⇑pls]?=some x.1.2)->
   (∀U H,Iv H0 a dp dm p5 dl D C f g pls ls (i+1) U H->Z.nx U H)->tb Z [some (.ref a),some (.int f),some (.int g),some (.ref dp),some (.ref dm),some (.ref p5),some (.ref dl),some (.ref D),some (.ref C),some (.int i),some (.int c),u11,u12,u13,u14,u15,u16,u17] H)
  (hZ:∀H',Z.rt (.bl true) H') :
  (nu (jK (BD bK) (bH 7)) (nu (jK (Qu (Oi K) (aK 0) (HM (tC (V.int 2))) (HM (eG (Bs λi j=>V.int (i+j)) (tC (V.int 2)) (uB (λxs H Q=>∃i j,xs=[V.int i,V.int j]/\Q (V.int (if j<i then j else i)) H) (aF (tC (V.int 14)) (aF (eG (rI Lr λi j=>V.int (i*j)) (uB (λxs H Q=>∃p ys,xs=[V.ref p]/\(aD K H p ys\/cx K H p ys)/\Q (V.int (⇑ys:Int)) H) (aF (aK 3) bK)) (uB (λxs H Q=>∃p ys,xs=[V.ref p]/\(aD K H p ys\/cx K H p ys)/\Q (V.int (⇑ys:Int)) H) (aF (aK 4) bK))) bK)))))) (bH 8)) (nu (sD (oz (eG (Ol K) (aK 8) (BD bK))) (jK (BD (aF (tC (V.int 4)) bK)) (bH 8)) uA) (nu (Ki (Jl K (aF (aK 8) bK)) (GS K 2 (ke (bH 9) (ke (bH 10) GU))) tb) (DO (eG Pd (uB (λxs H Q=>∃p kvs,xs=[V.ref p]/\H p=some (HO.dT kvs)/\Q (V.int (⇑kvs:Int)) H) (aF (Gn K (cy (gX T.de T.aS) [] E0 (aF (N9 K "str" (rJoin K) (tC (V.str ("\n": Str))) (aF (eG (Iu K) (aK 5) (aK 7)) bK)) bK)) ("notes": Str)) bK)) (uB (λxs H Q=>∃p ys,xs=[V.ref p]/\(aD K H p ys\/cx K H p ys)/\Q (V.int (⇑ys:Int)) H) (aF (aK 7) bK))))))))
   Z [some (.ref a),some (.int f),some (.int g),some (.ref dp),some (.ref dm),some (.ref p5),some (.ref dl),none,none,none,none,none,none,none,none,none,none,none] H8:=by
 let sl:=yt;let p4:=okp.len;let bl:=bk.len;let lb:=bk.lb;let q0:=Nat.mul_pos p0 l0;left
 intros D nD s9 hD H9
 exists dp,_,rfl,.inl (aD.of (s9 _ _ hpl)),?_;exists dm,_,rfl,.inl (aD.of (s9 _ _ hdm)),?_;exists .inl {by rw[za];ext,by rw[za];ext},?_;exists _,_,rfl,?_;obtain⟨n,en,n14,nn⟩:∃n:Nat,(if(⇑(pls.map V.str):Int)*(⇑vm:Int)<14 then(⇑(pls.map V.str):Int)*(⇑vm:Int) else 14)=(n:Int)/\n<=14/\n<=⇑pls*⇑ls:=by
  rw[za,vml,<-Int.natCast_mul]
  by_cases z:((⇑pls*⇑ls:Nat):Int)<14
  ·rw[yF z];exact{_,rfl,(),zh _}
  ·rw[yE z];exact{14,rfl,zh _,()}
 let⟨cs,ec,cl⟩:=EO (ns:=ns) n14;rw[<-en] at ec;exists a,_,rfl,s9.seq ha,?_
 intros C nC s10 hC H10
 let hC:H10 C=some (.lst (cs.map V.int)):=by rw[hC];exact yQ (λz=>some (HO.lst z)) ec
 let neC:C≠D:=λz=>by rw[z,hD] at nC;cases nC
 exists(by show 0<=sizeLine;ext),?_
 intros E nE s11 hE H11
 let s911:=s10.trans s11;refine{C,E,_,[],rfl,rfl,.inl {aD.of (s11 _ _ hC),aD.of hE},.inr (.inl rfl),?_};left;refine join (λU H'=>∃(C:wV) (cs:List Int),U=[some (.ref a),some (.int f),some (.int g),some (.ref dp),some (.ref dm),some (.ref p5),some (.ref dl),some (.ref D),some (.ref C),none,none,none,none,none,none,none,none,none]/\au H9 H'/\H' C=some (.lst (cs.map V.int))/\C≠D/\⇑cs<=14/\⇑cs<=⇑pls*⇑ls) (λN hN c1=>?_) (λN hN c1=>?_) ?_
 ·left
  refine{(by show 1<=sizeLine;ext),?_}
  intros C' nC' s12 hC' H12
  change hN _ _ {C',[4],rfl,s911.trans s12,hC',(λz=>by rw[z,s911 _ _ hD] at nC';cases nC'),(by show 1<=14;decide),q0}
 ·left
  exact hN _ _ {C,cs,rfl,s911,s11 _ _ hC,neC,(),()}
 clear hC neC nC cl ec;rintro U H12 ⟨C,cs,rfl,s12,hC,neC,c14,cn⟩;let hD12:=s12 _ _ hD;obtain⟨H0,eH0⟩:∃H0:Hp,H0=λb=>if b=D then none else H12 b:={_,rfl}
 let nD0:H0 D=none:=by rw[eH0];exact yF rfl
 let s80:au H8 H0:=λb u hb=>by rw[eH0];show(if b=D then none else H12 b)=_;rw[yE (λz=>by rw[z,nD] at hb;cases hb)];exact s12 _ _ (s9 _ _ hb)
 let s0:au H0 H12:=λb u hb=>by
  rw[eH0] at hb
  by_cases z:b=D
  ·rw[z] at hb;rw[show(λb=>if b=D then none else H12 b) D=none from yF rfl] at hb;cases hb
  ·rw[show(λb=>if b=D then none else H12 b) b=H12 b from yE z] at hb;exact hb
 let hC0:H0 C=some (.lst (cs.map V.int)):=by rw[eH0];show(if C=D then none else H12 C)=_;rw[yE neC];exact hC
 clear eH0;exists C,_,rfl,aD.of hC,?_;refine rk (K:=K) (a:=C) (xs:=cs.map V.int) (Iv H0 a dp dm p5 dl D C f g pls ls) {[],none,none,none,none,none,none,none,none,none,rfl,s0,hD12,xJ,zh _,λ_ z=>nomatch z} (λi U H' _ h=>by let⟨_,_,_,_,_,_,_,_,_,_,_,h,_⟩:=h;exact aD.of (h _ _ hC0)) ?_ ?_
 ·intro i x U H13 t H14 hx hh s14 ht
  refine iM λN kN0 kR0 _ _=>?_;let⟨nt,u9,u10,u11,u12,u13,u14,u15,u16,u17,rfl,s13,hD13,nd,nl,gn⟩:=hh;rw[zH] at hx;let⟨c,hc,rfl⟩:=Option.map_eq_some_iff.mp hx;let ci:=(zt.mp hc).1;refine{t,_,rfl,cx.of ht,rfl,?_};refine{_,_,rfl,{_,_,rfl,{rfl,?_}}};exact htb (s80 _ _ hpl) (s80 _ _ hr) (s80 _ _ hl) (il.mono s80) nD0 () () (s13.trans s14) (s14 _ _ hD13) nd nl gn (by assumption)
 ·rintro U H13 ⟨nt,u9,u10,u11,u12,u13,u14,u15,u16,u17,rfl,s13,hD13,nd,nl,gn⟩
  rw[za] at nl;let tne:ts≠[]:=λz=>by
   let r:=bk.runs;rw[z] at r;let h:=bk.pl;rw[<-show {}=S from r] at h;let h:=yQ List.length h;have:⇑([]:List Str)=⇑pls:=h;rw[y7] at this;ext
  let hr13:=s13 _ _ (s80 _ _ hr);exists p5,D,_,_,rfl,rfl,aD.of hr13,aD.of hD13,(by rw[fC,za];ext),?_
  intros p15 n15 s15 h15 H15
  let h15:H15 p15=some (.lst ((ts.map rowOf++nt.map λx=>rowOf (MP x)).map V.str)):=by rw[h15,<-w6,zw];rfl
  let⟨t1,t2,t3⟩:=vB (ext:=nt.map λx=>rowOf (MP x)) bk.td (λr hr=>by
   let⟨x,hx,rfl⟩:=zE.mp hr;exact pL (FQ bk okp (gn x hx).1) _ zk) (by simp[tne]) (by rw[za];ext)
  exists "\n",p15,_,rfl,rfl,aD.of h15,t1,?_;left;refine{_,.ok {S with av:=nt},rfl,t2,(by rw[t3];exact LU bk okp nd () λx hx=>(gn x hx).1),λS' eS a' o H16 sc s16 fr=>?_,λi w z=>nomatch z};cases eS;let⟨ub,jm,ho,hub,hjm⟩:=sc.obj;exists a',_,o.dx,_,_,rfl,ho,F.cls,F.av,rfl,?_;exists o.no,_,rfl,sc.no.1,?_;let e1:⇑(o.ns.map V.ref)=⇑nt:=by rw[za,fV sc.no.2,za]
  let e2:⇑((nt.map λx=>kN x.1).zip (o.ns.map V.ref))=⇑nt:=by rw[xi,za,e1,Nat.min_self]
  exists D,_,rfl,.inl (aD.of (s16 _ _ (s15 _ _ hD13))),?_;left;rw[zd (yQ (λn:Nat=>V.int n) (e2.trans (za ..).symm))];exact hZ _
inductive HV (K:yr) (vs:List V) (H:Hp) (Q:VK) (E:XK):Prop
 | mk (a:wV) (ns:List Int) (_:vs=[.ref a]) (_:aD K H a (ns.map V.int)) (_:⇑ns<=63) (_:∀H':Hp,Q (.bl true) H')
def MO (B:Dk P w K T) (F:Cf K T.de):cG P w base 11 T.Qb (HV K):=by
 nomatch T.Qb,["_law_script","_law_first","_law_second","_law_players","_law_metres","_law_rows","_law_lengths","_law_good","_law_cells","_law_k","_law_cell","_law_bar","_law_player","_law_whole","_law_parts_here","_law_row_here","_law_text","_law_items"]
 let⟨a,ns,rfl,ha,hl,kk⟩:=h;let sl:=yt;refine{_,(ae (ck 1 qN (bx (dw T) hr T.dJ (ag (bx (ju T) hr T.fR (ag (pv 0) (ag ah af))) (ag ah af))))
  (ae (ck 2 qN (bx (dw T) hr T.dJ (ag (bx (ju T) hr T.fR (ag (pv 0) (ag ah af))) (ag ah af))))
  (ae (Ou (i:=3) (ts:=["_law_k"]) (ys:=[]) (js:=[]) (te:=(eG LH (tC (.str "a")) (eG (Bs λi j=>.int (i+j)) (aK 0) (tC (.int (1)))))) (nR (by rfl) T.pN (ag (az cL ah (az b8 (pv 1) ah)) af)) (lE 0) aX (az KH ay (az cL (pv 0) ah)) qN)
  (ae (Ou (i:=4) (ts:=["_law_k"]) (ys:=["_law_second"]) (js:=[2]) (te:=(cy lC [] E0 (aF (eG (rI Ls λi j=>.int (i/j)) (eG (rI Ls λi j=>.int (i/j)) (aK 1) (eG (Bs λi j=>.int (i+j)) (aK 0) (tC (.int (1))))) (tC (.int (8)))) bK))) (nR (by rfl) T.pN (ag (az cL ah (az b8 (az d5 (pv 1) ah) ah)) af)) (lE 0) aX (bx (tF T) hr T.mn (ag (az d5 (az d5 (pv 1) (az cL (pv 0) ah)) ah) af)) qN)
  (ae (Ou (i:=5) (ts:=["_law_player"]) (ys:=[]) (js:=[]) (te:=(eG (λx y H Q=>∃i j,x=.str i/\y=.str j/\⇑i+⇑j<=sizeLine/\Q (.str (i++j)) H) (tC (.str "player ")) (aK 0))) (bS (pv 3)) (lE 0) aX (az bP ay (pv 0)) qN)
  (ae (ck 5 qN (az cN (pv 5) (qL (ts:=["_law_top","_law_bottom"]) (ys:=[]) (js:=[]) (g:=(GS K 2 (ke (bH 0) (ke (bH 1) GU)))) (te:=(eG (λx y H Q=>∃i j,x=.str i/\y=.str j/\⇑i+⇑j<=sizeLine/\Q (.str (i++j)) H) (eG (λx y H Q=>∃i j,x=.str i/\y=.str j/\⇑i+⇑j<=sizeLine/\Q (.str (i++j)) H) (eG (λx y H Q=>∃i j,x=.str i/\y=.str j/\⇑i+⇑j<=sizeLine/\Q (.str (i++j)) H) (eG (λx y H Q=>∃i j,x=.str i/\y=.str j/\⇑i+⇑j<=sizeLine/\Q (.str (i++j)) H) (tC (.str "bar ")) (uB Om (aF (aK 0) bK))) (tC (.str "/"))) (uB Om (aF (aK 1) bK))) (tC (.str " 0")))) (bS (pv 4)) (jU (n:=2) rfl (bQ (lE 0) (bQ (lE 1) gE))) aX (az bP (az bP (az bP (az bP ay (FG c9 T.oK (ag (pv 0) af))) ay) (FG c9 T.oK (ag (pv 1) af))) ay))))
  (ae (ax (cv (bf (bx (jX T B F) hr T.eE (ag (pv 5) (ag (eF (pv 4) ah) (ag (pv 2) af))))))
  (ai (aj fe))
  ak)
  (ae (Ou (i:=6) (ts:=["_law_top","_law_bottom"]) (ys:=[]) (js:=[]) (g:=(GS K 2 (ke (bH 0) (ke (bH 1) GU)))) (te:=(cy jR [] E0 (aF (aK 0) (aF (aK 1) bK)))) (bS (pv 4)) (jU (n:=2) rfl (bQ (lE 0) (bQ (lE 1) gE))) aX (bx (cw T) hr T.cA (ag (pv 0) (ag (pv 1) af))) qN)
  (ae (ax (ptr bE (az b8 (az d5 (pv 1) ah) ah) ah)
  (ae (Fy (pv 6) ah (bx (cw T) hr T.cA (ag (b4 (eF (pv 4) ah) ah) (ag (az fk (b4 (eF (pv 4) ah) ah) ah) af))))
   (ai (eT (cV yu yw yv eK (pv 5) (ag (az bP ay (bx (cp T) hr T.bX (ag (eF (pv 6) ah) af))) af)))))
  ak)
  (ae (ck 7 qN (bg af))
  (ae (ck 8 qN (bD cB (pv 0) (bZ ah) (bZ (az cL ah (c5 (G9 rfl) T.OA (ag ah (ag (az fk (c5 aq T.aP (ag (pv 3) af)) (c5 aq T.aP (ag (pv 4) af))) af)))))))
  (ae (ax (ptr (IM hr.units) (pv 8) (bg af))
  (ai (ck 8 qN (bg (ag ah af))))
  ak)
  (ae (hJ yG rfl (Ae (by rfl) T.j0 (ag (pv 8) af)) (jU (n:=2) rfl (bQ (FA 9 qN) (bQ (FA 10 qN) gE)))
  (ae (Ed (i:=11) (j:=12) rfl qN rfl rfl ∅ rfl rfl (ag (az d5 (pv 9) (c5 aq T.aP (ag (pv 3) af))) (ag (eF (pv 3) (az b8 (pv 9) (c5 aq T.aP (ag (pv 3) af)))) af)) rfl)
   (ae (ck 13 qN (bx (tE T) hr T.mm (ag (eF (pv 6) (pv 11)) (ag (bx (dw T) hr T.dJ (ag (pv 10) (ag (pv 9) af))) af))))
   (ae (ck 14 qN (bx (qU T) hr T.ku (ag (pv 13) (ag (bx (dw T) hr T.dJ (ag (pv 10) (ag (az cL (pv 9) ah) af))) af))))
   (ae (ck 15 qN (bx (Cp T) hr T.so (ag (pv 11) (ag (pv 12) (ag (pv 14) (ag (bx (dw T) hr T.dJ (ag (pv 10) (ag (az cL (pv 9) ah) af))) af))))))
   (ae (ck 16 qN (cV yx yz yy i0 ay (ag (az cN (pv 5) (bg (ag (pv 15) af))) af)))
   (ai (ax (ptr (Eh hr.units) (bx (gH T) hr T.iL (ag (pv 14) af)) (eF (pv 6) (pv 11)))
   (ai (ax (cv (bf (bx (dy T B F) hr T.dM (ag (pv 16) (ag (c5 aq T.aP (ag (pv 5) af)) (ag ay af))))))
    (ai (aj fe))
    ak))
   (ai (ax (ptr gf (c5 aq T.aP (ag (pv 14) af)) ah)
    (ai (ax (cv (bf (bx (dy T B F) hr T.dM (ag (pv 16) (ag (c5 aq T.aP (ag (pv 5) af)) (ag ay af))))))
     (ai (aj fe))
     ak))
    (ae (ck 17 qN (FE (jw hr) (aR (mK (eU T B F) (hr.mono ∅) rfl T.bA.g T.bA.F.kp T.bA.b .nil IK (ag (pv 16) af)) rfl) (bB (ag (pv 11) (ag (pv 12) af))) (λ_ _=>rfl)))
     (ae (ax (cv (bf (bx (dz T (dz T (dz T (jY T (k:=0))))) hr T.eP (ag (qL (ts:=["_law_item"]) (ys:=[]) (js:=[]) (te:=(eG (nO K) (aK 0) (tC (.int (1))))) (bS (pv 17)) (lE 0) aX (b4 (pv 0) ah)) (ag (pv 14) af)))))
     (ai (aj fe))
     ak)
     (ai (eT (cV yu yw yv eK (pv 7) (ag (pv 15) af))))))))))))))))
  (ai (aj (bT bE (c5 rR T.aP (ag (aR (mK (eU T B F) (hr.mono ∅) rfl T.bA.g T.bA.F.kp T.bA.b .nil IK (ag (cV yx yz yy i0 ay (ag (az cN (pv 5) (pv 7)) af)) af)) rfl) af)) (c5 aq T.aP (ag (pv 7) af)) (dj _))))))))))))))))),?_}
 ac_rfl;exists a,ns,0,rfl,ha,(by decide),(),λc1=>?_;exists c1,1,rfl,(by decide),(by decide),?_;let f0:0<=mixed c1 1:=zr _ ∅;let f1:mixed c1 1<2147483399:=zm _ ∅;generalize mixed c1 1=f at f0 f1;exists a,ns,1,rfl,ha,(by decide),(),λc2=>?_;exists c2,2,rfl,(by decide),(by decide),?_;let g0:0<=mixed c2 2:=zr _ ∅;let g1:mixed c2 2<2147483399:=zm _ ∅;generalize mixed c2 2=g at g0 g1;left
 skip
 obtain⟨np,enp,np1,np4⟩:∃np:Nat,1+f%4=(np:Int)/\1<=np/\np<=4:={(1+f%4).toNat,(),(),()}
 rw[enp];refine{(),(),?_};refine md (λj=>.str (nJ "a" (j+1))) (λU=>∃v,U=[v]) (by rw[xH];ext) {(none),rfl} ?_ ?_
 ·rintro j U H4 R hj s4 ⟨_,rfl⟩ r
  rw[xH] at hj;exists (),(),(by decide),?_;rw[show((0:Int)+(j:Nat)+1).toNat=j+1 by ext];exact r _ _ _ (λ_ _ z=>z) lY {_,rfl}
 intro dp vp H1 s1 _ hdp ilp;left
 skip
 obtain⟨nb,enb,nb1,nb10⟩:∃nb:Nat,1+f/4%10=(nb:Int)/\1<=nb/\nb<=10:={(1+f/4%10).toNat,(),(),()}
 rw[enb];refine{(),(),?_};refine md (λj=>dL (CB (g/((j:Nat)+1)/8))) (λU=>∃v,U=[v,some (.int g)]) (by rw[xH];ext) {(none),rfl} ?_ ?_
 ·rintro j U H4 R hj s4 ⟨_,rfl⟩ r
  rw[xH] at hj;exists{(()),()},?_;left;let e0:g/(0+(j:Int)+1)/8=g/((j:Int)+1)/8:=by rw[Int.zero_add]
  refine{(by rw[e0];exact zR (zR g0 ()) ∅),λq H5 s5 h5=>r _ _ _ s5 (kc (by rw[<-e0];exact h5)) {_,rfl}}
 intro dm vm H2 s2 _ hdm ilm;rw[xH] at ilp ilm;obtain⟨pls,epl⟩:∃pls:List Str,pls=(List.range np).map λj=>nJ "a" (j+1):={_,rfl}
 let ilp:ar H1 (pls.map Dt.str) vp:=by rw[epl,zw];exact ilp
 obtain⟨ms,ems⟩:∃ms:List (Int×Int),ms=(List.range nb).map λj:Nat=>CB (g/((j:Nat)+1)/8):={_,rfl}
 let ilm:ar H2 (ms.map dL) vm:=by rw[ems,zw];exact ilm
 rw[gJ ilp] at hdp;let hdp2:=s2 _ _ hdp;left;let pll:⇑pls=np:=by rw[epl,za,zO]
 let msl:⇑ms=nb:=by rw[ems,za,zO]
 let okp:jE pls:=by rw[epl];exact MF np1 np4
 let okm:lj ms:=by rw[ems];exact OB _ nb10
 refine{{_,aD.of hdp2},?_};refine gp (ws:=pls) (enc:=V.str) (λz=>.str (rowOf (.aZ z))) (λU=>∃v,U=[v]) () (aD.of hdp2) {(none),rfl} ?_ ?_
 ·rintro z U H4 R hz s4 ⟨_,rfl⟩ r
  have:=(okp.nm z hz).2;exists(by show 7+⇑z<=sizeLine;ext),?_;exact r _ _ _ (au.refl _) lY {_,rfl}
 intro dr vr H3 s3 _ hdr ilr;exists{_,aD.of (s3 _ _ hdm)},?_;let⟨ps,e1,e2,e3⟩:=kL ilm;let psl:⇑ps=nb:=by rw[<-msl,<-e1,za]
 refine gp (enc:=λz:(Int×Int)×V=>z.2) (ws:=ps) (λz=>.str (rowOf (.bar (km z.1)))) (λU=>∃v1 v2,U=[v1,v2]) () (by rw[e2];exact aD.of (s3 _ _ hdm)) {(none),none,rfl} ?_ ?_
 ·rintro⟨x,v⟩ U H4 R hz s4 ⟨_,_,rfl⟩ r
  let iz:Is H4 (dL x) v:=Is.mono (s3.trans s4) (e3 _ hz);let⟨x1,x2,x3,x4,x5⟩:=j4 x (okm.all x (by rw[<-e1];exact zE.mpr {_,hz,rfl}));cases dF (o:=some x) iz with
  | ref h8=>
  refine{_,_,rfl,cx.of h8,rfl,?_};refine{_,_,rfl,{_,_,rfl,{rfl,?_}}};let da:=cI (n:=x.1) () ();let dbl:=cI (n:=x.2) () ();let na:=iA (n:=x.1) () ();let nb':=iA (n:=x.2) () ();let l1:("bar " ++ dec x.1).length=4+⇑(dec x.1):=len_app _ _;let l2:("bar " ++ dec x.1 ++"/").length=("bar " ++ dec x.1).length+1:=len_app _ _;let l3:("bar " ++ dec x.1 ++"/" ++ dec x.2).length=("bar " ++ dec x.1 ++"/").length+⇑(dec x.2):=len_app _ _;exists na,?_;exists(by show 4+⇑(dec x.1)<=sizeLine;ext),?_;exists(by show("bar " ++ dec x.1).length+1<=sizeLine;ext),?_;exists nb',?_;exists(by show("bar " ++ dec x.1 ++"/").length+⇑(dec x.2)<=sizeLine;ext),?_;exists(by show("bar " ++ dec x.1 ++"/" ++ dec x.2).length+2<=sizeLine;ext),?_;exact r _ _ _ (au.refl _) (by rw[JM];exact lY) {_,_,rfl}
 intro db vb H4 s4 _ hdb ilb;let er:pls.map (λz=>Dt.str (rowOf (.aZ z)))=(pls.map λz=>rowOf (.aZ z)).map Dt.str:=by rw[zw];rfl
 rw[er] at ilr;rw[gJ ilr] at hdr;let eb:ps.map (λz=>Dt.str (rowOf (.bar (km z.1))))=(ms.map λz=>rowOf (.bar (km z))).map Dt.str:=by rw[<-e1,zw,zw];rfl
 rw[eb] at ilb;rw[gJ ilb] at hdb;exists dr,db,_,_,rfl,rfl,aD.of (s4 _ _ hdr),aD.of hdb,(by rw[za,za,za,za];ext),?_
 intros p5 n5 s5 h5 H5
 let h5:H5 p5=some (.lst (rws (R0 pls ms))):=by
  rw[h5];unfold rws R0;rw[zg,zg,zw,zw,zw,zw,zw,zw];rfl
 let s35:=(s3.trans s4).trans s5;let ilm5:=ilm.mono s35;left;obtain⟨v0,hv0⟩:∃v,vm[0]?=some v:={_,zb (show 0<⇑vm by rw[aI ilm];ext)}
 let⟨x,hx,ix⟩:=cX ilm5 hv0;cases dF (o:=some x) ix with
 | ref h8=>
 refine{dm,_,0,_,rfl,rfl,aD.of (s35 _ _ hdm),aQ hv0,?_};exists p5,_,g,pls,ms,x,rfl,h5,h8,hx,okp,okm,g0,λH6 s6=>?_;let s36:=s35.trans s6;exists{_,aD.of (s36 _ _ hdm)},?_;refine gp (enc:=λz:(Int×Int)×V=>z.2) (ws:=ps) (λz=>dL (Lm.red z.1.1 z.1.2)) (λU=>∃v1 v2,U=[v1,v2]) () (by rw[e2];exact aD.of (s36 _ _ hdm)) {(none),none,rfl} ?_ ?_
 ·rintro⟨x,v⟩ U H7 R hz s7 ⟨_,_,rfl⟩ r
  let iz:Is H7 (dL x) v:=Is.mono (s36.trans s7) (e3 _ hz);let⟨x1,x2,x3,x4,x5⟩:=j4 x (okm.all x (by rw[<-e1];exact zE.mpr {_,hz,rfl}));cases dF (o:=some x) iz with
  | ref h8=>
  refine{_,_,rfl,cx.of h8,rfl,?_};refine{_,_,rfl,{_,_,rfl,{rfl,?_}}};exists _,_,rfl,(),(),(bp (n:=30) () ()).mono ∅,λe H8 s8 he=>?_;exact r _ _ _ s8 (kc he) {_,_,rfl}
 intro dl vl H7 s7 n7 hdl ill;let ill:ar H7 ((ms.map λx=>Lm.red x.1 x.2).map dL) vl:=by rw[<-e1,zw,zw];exact ill
 let nd4:H4 dl=none:=(s5.trans s6).free n7;let h57:H7 p5=some (.lst (rws (R0 pls ms))):=s7 _ _ (s6 _ _ h5);let s47:au H4 H7:=(s5.trans s6).trans s7;let ne5:dl≠p5:=λz=>by rw[z,s6 _ _ h5] at n7;cases n7
 let h87:=s7 _ _ (s6 _ _ h8);let s27:au H2 H7:=s36.trans s7;let vl0:0<⇑vl:=by have:=aI ill;rw[za] at this;ext
 left;refine join (λU H'=>∃(ts:List Told) (S:cF) (ls:List (Int×Int)) (vl:List V),U=[some (.ref a),some (.int f),some (.int g),some (.ref dp),some (.ref dm),some (.ref p5),some (.ref dl),none,none,none,none,none,none,none,none,none,none,none]/\au H4 H'/\H' p5=some (.lst (rws ts))/\H' dl=some (.lst vl)/\ar H' (ls.map dL) vl/\Bk pls ts S ls/\⇑ls=nb) (λN hN c1=>?_) (λN hN c1=>?_) ?_
 ·left
  refine{dm,_,0,_,rfl,rfl,aD.of (s27 _ _ hdm),aQ hv0,?_};exists dm,_,0,_,rfl,rfl,aD.of (s27 _ _ hdm),aQ hv0,?_;left;let⟨x1,x2,_,x4,x5⟩:=j4 x (okm.all x (zy hx));refine{_,_,rfl,(),(),(bp (n:=30) () ()).mono ∅,λe H8 s8 he=>?_};let pt:=LI hx okm;let q1:=pt.p0;let q2:=pt.p1;let q3:=pt.p2;let q4:=pt.pos;left;let hdl8:=s8 _ _ hdl;let nt:cg (H8 dl):=λvs z=>by rw[hdl8] at z;cases z
  let ned:e≠dl:=λz=>by rw[z,hdl8] at he;cases he
  refine{dl,vl,0,0,rfl,rfl,hdl8,(by unfold Ji;rw[yF ∅,yF ()];rfl),?_};generalize hG:upd H8 dl (.lst (vl.set 0 (.ref e)))=H9;let h9:H9 dl=some (.lst (vl.set 0 (.ref e))):=by rw[<-hG,aA]
  let he9:H9 e=some (fw (Lm.red x.1 (x.2*3))):=by rw[<-hG,ao ned];exact he
  let h59:H9 p5=some (.lst (rws (R0 pls ms))):=by rw[<-hG,ao (Ne.symm ne5)];exact s8 _ _ h57
  let s49:au H4 H9:=λb u hb=>by rw[<-hG,ao (λz=>by rw[z,nd4] at hb;cases hb)];exact s8 _ _ (s47 _ _ hb)
  let il9:ar H9 (((ms.map λx=>Lm.red x.1 x.2).set 0 (Lm.red x.1 (x.2*3))).map dL) (vl.set 0 (.ref e)):=by
   rw[List.map_set,<-hG];exact Az (Is.upd nt (kc he)) 0 (ar.upd nt (ill.mono s8))
  let at0:(vl.set 0 (V.ref e))[0]?=some (.ref e):=List.getElem?_set_self vl0;let lt:=fU (x:=Lm.red x.1 (x.2*3)) () () () ();exists .inl {rfl,_,aD.of h59},?_;exists dl,_,0,_,rfl,rfl,aD.of h9,aQ at0,?_;exists e,_,rfl,he9,(),(),(),(),?_;left
  skip
  refine{(by show 7+⇑(cR _)<=sizeLine;ext),?_};exists p5,_,_,rfl,rfl,h59,(by rw[fC,Ac];ext),?_;let nt5:cg (H9 p5):=λvs z=>by rw[h59] at z;cases z
  left;refine hN _ _ {_,_,_,_,rfl,λb u hb=>?_,?_,by rw[ao ne5];exact h9,ar.upd nt5 il9,QW hx okp okm,by rw[List.length_set,za];exact msl}
  ·rw[ao (λz=>by rw[z,n5] at hb;cases hb)];exact s49 _ _ hb
  ·rw[aA,Kq];rfl
 ·left
  exact hN _ _ {_,_,_,_,rfl,s47,h57,hdl,ill,QA okp okm,by rw[za];exact msl}
 rintro U H8 ⟨ts,S,ls,vl,rfl,s8,h8r,h8l,il8,bk,lsl⟩;let ha8:=s8.seq ((((s1.trans s2).trans s3).trans s4).seq ha);let hdp8:=s8 _ _ (s4 _ _ (s3 _ _ hdp2));let hdm8:=s8 _ _ (s4 _ _ (s3 _ _ hdm));let vml:⇑vm=nb:=by rw[aI ilm];exact msl
 exact I0 T F okp bk ha8 hdp8 hdm8 (by rw[vml,lsl]) h8r h8l il8 () () (λ{_ _ _ _ _ _ _ _ _ _ _ _ _ _ _} h1 h2 h3 h4 h5 h6 h7 h8 h9 h10 h11 h12 h13=>Jb T F okp bk h1 h2 h3 h4 h5 h6 h7 h8 h9 h10 h11 h12 h13) λH'=>kk H'
end
def l1 {α:Type} {n:Nat} {P:List α->Prop} {us:List α} (h:⇑us=n+1) (k:∀u r,⇑r=n->P (u::r)):P us:=match us,h with
 | u::r,h=>k u r (Nat.succ.inj h)
def l0 {α:Type} {P:List α->Prop} {us:List α} (h:⇑us=0) (k:P []):P us:=match us,h with
 | [],_=>k
def mq {K:yr} {h:wW} {mg:Str->Option wM} {x:Str} {st:Stmt} {f:wV} {od an:Option wV} {sl:Array (Option wM)} {oc kV dc pm cd ct:wM} {p0:Str} (X:K.In h) (G:h.Ns mainGlobals mg) (a:PySem.W.nsIn K mainGlobals x=some (some (.ref f))<|>ql_) (l:K.lookup f=some {oc,od,.func (PySem.W.fnOf x x (bw st) (aV st) (aC st) .none kV dc pm an cd ct),sl}<|>ql_) (c:PySem.W.codeIn K cd x=true<|>ql_) (k:PySem.W.keepIn K (.ref f)=true<|>ql_)
  (hb:(∀(kV dc pm:wM) (an:Option wV) (cd ct u0:wM),bindArgs (PySem.W.fnOf x x (bw st) (aV st) (aC st) .none kV dc pm an cd ct) {[u0],[]}=pure [(p0,u0)])<|>qm_) :
  Df K mg x st f (PySem.W.fnOf x x (bw st) (aV st) (aC st) .none kV dc pm an cd ct) [p0]:=
 {fo l c k,wL X G a,(fo l c k).binds (ps:=[p0]) λkV dc pm an cd ct us hl=>by
  apply l1 hl;intro u0 r h;apply l0 h;exact hb kV dc pm an cd ct u0}
def kY {K:yr} {h:wW} {mg:Str->Option wM} {x:Str} {st:Stmt} {f:wV} {od an:Option wV} {sl:Array (Option wM)} {oc kV dc pm cd ct:wM} {p0 p1:Str} (X:K.In h) (G:h.Ns mainGlobals mg) (a:PySem.W.nsIn K mainGlobals x=some (some (.ref f))<|>ql_) (l:K.lookup f=some {oc,od,.func (PySem.W.fnOf x x (bw st) (aV st) (aC st) .none kV dc pm an cd ct),sl}<|>ql_) (c:PySem.W.codeIn K cd x=true<|>ql_) (k:PySem.W.keepIn K (.ref f)=true<|>ql_)
  (hb:(∀(kV dc pm:wM) (an:Option wV) (cd ct u0 u1:wM),bindArgs (PySem.W.fnOf x x (bw st) (aV st) (aC st) .none kV dc pm an cd ct) {[u0,u1],[]}=pure [(p0,u0),(p1,u1)])<|>qm_) :
  Df K mg x st f (PySem.W.fnOf x x (bw st) (aV st) (aC st) .none kV dc pm an cd ct) [p0,p1]:=
 {fo l c k,wL X G a,(fo l c k).binds (ps:=[p0,p1]) λkV dc pm an cd ct us hl=>by
  apply l1 hl;intro u0 r h;apply l1 h;intro u1 r h;apply l0 h;exact hb kV dc pm an cd ct u0 u1}
def NJ {K:yr} {h:wW} {mg:Str->Option wM} {x:Str} {st:Stmt} {f:wV} {od an:Option wV} {sl:Array (Option wM)} {oc kV dc pm cd ct:wM} {p0 p1 p2:Str} (X:K.In h) (G:h.Ns mainGlobals mg) (a:PySem.W.nsIn K mainGlobals x=some (some (.ref f))<|>ql_) (l:K.lookup f=some {oc,od,.func (PySem.W.fnOf x x (bw st) (aV st) (aC st) .none kV dc pm an cd ct),sl}<|>ql_) (c:PySem.W.codeIn K cd x=true<|>ql_) (k:PySem.W.keepIn K (.ref f)=true<|>ql_)
  (hb:(∀(kV dc pm:wM) (an:Option wV) (cd ct u0 u1 u2:wM),bindArgs (PySem.W.fnOf x x (bw st) (aV st) (aC st) .none kV dc pm an cd ct) {[u0,u1,u2],[]}=pure [(p0,u0),(p1,u1),(p2,u2)])<|>qm_) :
  Df K mg x st f (PySem.W.fnOf x x (bw st) (aV st) (aC st) .none kV dc pm an cd ct) [p0,p1,p2]:=
 {fo l c k,wL X G a,(fo l c k).binds (ps:=[p0,p1,p2]) λkV dc pm an cd ct us hl=>by
  apply l1 hl;intro u0 r h;apply l1 h;intro u1 r h;apply l1 h;intro u2 r h;apply l0 h;exact hb kV dc pm an cd ct u0 u1 u2}
def QV {K:yr} {h:wW} {mg:Str->Option wM} {x:Str} {st:Stmt} {f:wV} {od an:Option wV} {sl:Array (Option wM)} {oc kV dc pm cd ct:wM} {p0 p1 p2 p3:Str} (X:K.In h) (G:h.Ns mainGlobals mg) (a:PySem.W.nsIn K mainGlobals x=some (some (.ref f))<|>ql_) (l:K.lookup f=some {oc,od,.func (PySem.W.fnOf x x (bw st) (aV st) (aC st) .none kV dc pm an cd ct),sl}<|>ql_) (c:PySem.W.codeIn K cd x=true<|>ql_) (k:PySem.W.keepIn K (.ref f)=true<|>ql_)
  (hb:(∀(kV dc pm:wM) (an:Option wV) (cd ct u0 u1 u2 u3:wM),bindArgs (PySem.W.fnOf x x (bw st) (aV st) (aC st) .none kV dc pm an cd ct) {[u0,u1,u2,u3],[]}=pure [(p0,u0),(p1,u1),(p2,u2),(p3,u3)])<|>qm_) :
  Df K mg x st f (PySem.W.fnOf x x (bw st) (aV st) (aC st) .none kV dc pm an cd ct) [p0,p1,p2,p3]:=
 {fo l c k,wL X G a,(fo l c k).binds (ps:=[p0,p1,p2,p3]) λkV dc pm an cd ct us hl=>by
  apply l1 hl;intro u0 r h;apply l1 h;intro u1 r h;apply l1 h;intro u2 r h;apply l1 h;intro u3 r h;apply l0 h;exact hb kV dc pm an cd ct u0 u1 u2 u3}
def walk {l:PySem.W.OpenLaw} {q:wO} {loose:List Str} {XP:(Str->Option wM)->wW->Prop} {YP:wQ->wW->Prop} {d:DefRec} {K:Params->yr} (hn:l.most=some 63) (hdf:d.params.defaults=[]) (hdn:d.name ="law")
  (hY:∀(w:wQ) (h:wW),YP w h->(K w.params).In h)
  (F:∀(w:wQ) (mg:Str->Option wM) (h:wW),(K w.params).In h->h.Ns mainGlobals mg->
   ∃T:Txt (K w.params) mg,Dk l.prog w (K w.params) T/\∀(s:wN) (v:wM),BindsTo s T.JH {[v],[]} [("_law_script",v)]) :
  PySem.W.WalkO q loose XP YP l.row.toRowW d [] (λf vs=>PySem.call f vs):=
 L2.J8 (n:=63) (k:=11) (x:="_law_script") (CX:=λ_=>uq) (sp:=λw=>HV (K w.params)) hn ∅ hdf {rfl,∅,∅} hY
  (λw mg fa h kx hns hm=>by
   let⟨T,B,hb⟩:=F w mg h kx hns;rw[hdn] at hm;let e:=hm.symm.trans T.Qb.g;cases e;exact{T.JH,hb,λbase _ _=>MO T B T.cf}) (λ_ _ a ns hl _ hS=>{a,ns,rfl,hS,hl,λ_=>rfl}) λ_ _ _ _ _ z=>z
def Qz {P:wO} {w:wQ} {K:yr} {a:wV} {n:Nat} {t0 t1 t2 t3 t4 t5 t6 t7 t8:Tok} {f0 f1 f2 f3 f4 f5 f6 f7 f8:wV} {s0 s1 s2 s3 s4 s5 s6 s7 s8:Str} (r:K.lookup a=some {cls:=.type "dict",data:=.dict #[{PyData.keyHash w.params s0,.str s0 t0,.ref f0},{PyData.keyHash w.params s1,.str s1 t1,.ref f1},{PyData.keyHash w.params s2,.str s2 t2,.ref f2},{PyData.keyHash w.params s3,.str s3 t3,.ref f3},{PyData.keyHash w.params s4,.str s4 t4,.ref f4},{PyData.keyHash w.params s5,.str s5 t5,.ref f5},{PyData.keyHash w.params s6,.str s6 t6,.ref f6},{PyData.keyHash w.params s7,.str s7 t7,.ref f7},{PyData.keyHash w.params s8,.str s8 t8,.ref f8}] n}) (y:(a == sysModules)=false) (nd:List.Nodup [s0,s1,s2,s3,s4,s5,s6,s7,s8]) :
  KD P w K a [(s0,.ref f0),(s1,.ref f1),(s2,.ref f2),(s3,.ref f3),(s4,.ref f4),(s5,.ref f5),(s6,.ref f6),(s7,.ref f7),(s8,.ref f8)]:=OH (l:=[(s0,t0,f0),(s1,t1,f1),(s2,t2,f2),(s3,t3,f3),(s4,t4,f4),(s5,t5,f5),(s6,t6,f6),(s7,t7,f7),(s8,t8,f8)]) r y nd
def QS {K:yr} {a:wV} {rd:Option wV} {rs:Array (Option wM)} {rn:Nat} {t0 t1 t2 t3 t4 t5:Tok} {x0 x1 x2 x3 x4 x5:Int} (r:K.lookup a=some {.type "tuple",rd,.seq #[.int x0 t0,.int x1 t1,.int x2 t2,.int x3 t3,.int x4 t4,.int x5 t5] rn,rs}) (H:Hp):cx K H a [.int x0,.int x1,.int x2,.int x3,.int x4,.int x5]:=
 .inr {_,_,_,r,rfl,rfl,by show 6<=sizeLine;decide,.cons {_,rfl} (.cons {_,rfl} (.cons {_,rfl} (.cons {_,rfl} (.cons {_,rfl} (.cons {_,rfl} (.nil))))))}
def QU {K:yr} {x y:Str} {st:Stmt} {f:wV} {od an:Option wV} {sl:Array (Option wM)} {oc kV dc pm cd ct:wM} {p:Str} (l:K.lookup f=some {oc,od,.func (PySem.W.fnOf x y (bw st) (aV st) (aC st) .none kV dc pm an cd ct),sl}<|>ql_) (c:PySem.W.codeIn K cd y=true<|>ql_) (k:PySem.W.keepIn K (.ref f)=true<|>ql_)
  (hb:(∀(kV dc pm:wM) (an:Option wV) (cd ct u:wM),bindArgs (PySem.W.fnOf x y (bw st) (aV st) (aC st) .none kV dc pm an cd ct) {[u],[]}=pure [(p,u)])<|>qm_):Pj K x y st f (PySem.W.fnOf x y (bw st) (aV st) (aC st) .none kV dc pm an cd ct) [p]:=
 {fo l c k,(fo l c k).binds (ps:=[p]) λkV dc pm an cd ct us hl=>match us,hl with | [u],_=>hb kV dc pm an cd ct u}
def Qm {K:yr} {x y:Str} {st:Stmt} {f:wV} {od an:Option wV} {sl:Array (Option wM)} {oc kV dc pm cd ct:wM} {p0 p1 p2:Str} (l:K.lookup f=some {oc,od,.func (PySem.W.fnOf x y (bw st) (aV st) (aC st) .none kV dc pm an cd ct),sl}<|>ql_) (c:PySem.W.codeIn K cd y=true<|>ql_) (k:PySem.W.keepIn K (.ref f)=true<|>ql_)
  (hb:(∀(kV dc pm:wM) (an:Option wV) (cd ct u0 u1 u2:wM),bindArgs (PySem.W.fnOf x y (bw st) (aV st) (aC st) .none kV dc pm an cd ct) {[u0,u1,u2],[]}=pure [(p0,u0),(p1,u1),(p2,u2)])<|>qm_):Pj K x y st f (PySem.W.fnOf x y (bw st) (aV st) (aC st) .none kV dc pm an cd ct) [p0,p1,p2]:=
 {fo l c k,(fo l c k).binds (ps:=[p0,p1,p2]) λkV dc pm an cd ct us hl=>match us,hl with | [u0,u1,u2],_=>hb kV dc pm an cd ct u0 u1 u2}
def QI {K:yr} {C S f N:wV} {nm q:Str} {bs:List wM} {hdct:Bool} {sn:List Str} {sub:List wM} {ab:Bool} {col:Option Bool} {dd:Option wV} {k0 k1 k2 k3 k5:Option wM} {nm' qn':Str} {bs':List wM} {ns':wV} {hd':Bool} {sn':List Str} {sub':List wM} {ab':Bool} {col':Option Bool} {del':Bool} {dd':Option wV} {sl':Array (Option wM)} {nm2 qn2:Str} {bs2:List wM} {ns2:wV} {sn2:List Str} {sub2:List wM} {ab2:Bool} {col2:Option Bool} {del2:Bool}
  (o:K.lookup C=some (excClassObj nm q C N bs (.ref S::vz) hdct sn sub ab col dd k0 k1 k2 k3 k5 "ValueError.__new__")<|>ql_) (u:K.lookup S=some {.type "type",dd',.cls {nm',bs',.ref S::vz,ns',qn',hd',sn',sub',ab',col',del'},sl'}<|>ql_) (e:PySem.W.excIn K S vz "ValueError.__new__"= true<|>qn_) (i:PySem.W.findIn K (.ref C) "__init__"= some (some (.ref f))<|>ql_) (n:PySem.W.isFn K (.ref f)=true<|>ql_) (k:PySem.W.keepIn K (.ref C)=true<|>ql_)
  (z1:PySem.W.findIn K (.ref C) "__getattribute__"= some (some (.builtin "BaseException.__getattribute__"))<|>ql_) (z2:PySem.W.findIn K (.ref C) "__getattr__"= some none<|>ql_) (z3:PySem.W.findIn K (.ref C) "__class__"= some (some (.builtin "object.__class__"))<|>ql_) (z4:PySem.W.mroIn K C (.type "BaseException")=some true<|>ql_) (z5:PySem.W.mroIn K C (.type "object")=some true<|>ql_)
  (z6:PySem.W.findIn K (.ref C) "__setattr__"= some (some (.builtin "object.__setattr__"))<|>ql_) (z7:PySem.W.clsIn K C=some {nm2,bs2,[.ref C,.ref S,.type "ValueError",.type "Exception",.type "BaseException",.type "object"],ns2,qn2,true,sn2,sub2,ab2,col2,del2}<|>ql_):Br K C S f:=
 {{_,_,_,_,_,_,_,_,_,_,_,_,_,_,_,o},{_,_,_,_,_,_,_,_,_,_,_,_,u},e,i,n,k,{(z1),z2,z3,z4,z5},{z6,{_,_,_,_,_,_,_,_,_,z7}}}
def IV {K:yr} {C:wV} {f:Str} (e:PySem.W.findIn K (.ref C) f=some none<|>ql_):b5 K C f:=e
def mS {K:yr} {h:wW} {mg:Str->Option wM} {x:Str} {v:wM} (X:K.In h) (G:h.Ns mainGlobals mg) (e:PySem.W.nsIn K mainGlobals x=some (some v)<|>ql_):mg x=some v:=wL X G e
def CA {K:yr} {h:wW} {mg:Str->Option wM} {x:Str} (X:K.In h) (G:h.Ns mainGlobals mg) (e:PySem.W.nsIn K mainGlobals x=some none<|>ql_):mg x=none:=PySem.W.mg_none_of X G e
end K22
local macro_rules|`(command|#check $s:str)=>do{let mut n:=0;let mut r:=#[];for c in s.getString.toList do{n:=n*62+(c.toNat-48-c.toNat/65*7-c.toNat/97*6);if 62^10≤n then{let i:=Lean.mkIdent (.mkSimple s!"tw{n-62^10}");r:=r.push (←`(command|def $i:ident :=Prop));n:=0}};return Lean.mkNullNode r}
namespace PySem.W.Fast
#check"DcWhIE1zMX44Hn4L2wi5i4EbHA0VZgthYGarrKHWHjvAIPO48nC9UDO8FfTgyufD0D3s2ewF9Be8TGbolRG6zbg0IYZADTy11ME9XmvlJ39UCj3yomKUJca1HMkoAp79ycSl24g8ZAltgpM4Shww14OptxCkXf1XUNZxoGUBpCXcvHl89cqeGNUJGgACugpLmL5N1LAvq80YWg0gr8I11cjBGnVh4T8SelLAY4IHNz8E8CNLgU2UdkQnsBjl0FQBV96UUCkILn5orMGwMJ82mq8jR4ru21KFMF7k2MLMG2ZkbYyd6Lky8FEzlkZBeudBCgUdOzSIq06OzTUAtskjB5Lip4zvTi5p7qTM4poVj1wIUdIEqDVdac8DQl9GqdrKc7chyn19UWAE4eNn4v6EJaS5J2sKAD89SmHx7yG1woTa57AlvLvbJxTL5M6Mp2w15p9HUU89zGms0xMuwMMrl78k6DOEyxxQcSm49Zwn4gAR1ZNBDUBkQ7xS357Fyc1jDD2EHLDvmoV9IYCc1RC2EB2qHEX4ZBqu4ZIiDNHGmguXALdF7FU3NdU3KXZwJNeJ2wWuCCHLcMX37GCvi5EAHseTcD0u22xQq5YidZwc3DLiu1SmP0i8kshLoPbMAe9Ki3xgzPb2C5um8lIAwGTaCVovIRC9VsC66FQXIDdal9LHLj4u04MsE19QoVcmh0ZcKj1zdVpCvRhKaY6BhhRC5BJm3P8x8zNW4MqA48wA9OKR8JCbxj0R4Gr4luoKTJ1TKVMdL3uXTYRIK2iaaCTeMx0T4JceksshND1MKT3pFQyJ4WD6qiAgORgBfLku1WXZZTrqK5WyqKBc5XgIxwzAbffMkL3TKyUlBv0NCDy0022m69qY20g7VyvsSFnMrlPQL5Vs8tCL0czvWse0tAbbAwasQVPw5FtJKPu0kdpFulqK5DFy0QD5PWARHcqaI71bEQV5hLXj9oH6gXcN4xD4DV0gVqCWanKTj7zzaW7ca2VwRKg5fh8p6QLYLP7RsvrEv2YdDP1QF0JevuTsULc0gAd0kg15scBaLZ55T7B6G423idF3bsfq3uL3GV8CZaOdA7kKTlk8GlCHMNs6CvZwwlPFxVhgIC2oGcI4A6WOF7aaZ7LguX2STXiNHBzdjjYYTSJJiEP8tPHOSGFMLie6mMwuSFWVC4M8iH3z8uSoQaG3FsY9ixstzn2Bsf8u06nRtrLl292975NkRhcKK3d2otlPXZX6mLFNTLUiiBMRH78hnXCo1GGfRGlCc2NJ3RKSrYKSCf4CwQigNA6TbZ2CcXRdXt4fdCgVQr8WnfKy4oUUOy99dZOH5AvuBFLCmqJt4m8xTVoPo9WBJPtDodp16ljJDMUH8ZbJkNgZwuN0hU8EdKsV4RcCi5Spw00hPPnLE9XnfC1BZdM6DvfQF6GrZH6p72Smcvgqz1KLb5TCJPaILUlO5ab5lXt2uw3dcctOp3197M3lYzXLf7MFTF96bCsiGEfH5sfbLOB2w8K1YMvrZm8tzpRKBUHJiJq4gn4ivSDJ7a5D0FvJdQf4iXZv3vC1noCOLrRV62Xx7MvW6ciWVpn3DjR53nldfoU90KmnUJgP1j7y3yLWr9YdJ1QSrF62TFAC5iS2RF41XaVHmtxGUtRmNnHTqlvQNtKDm99QW20z0FDeDAkOoUh0x4SAVovm4guovVIpezAVOhDWd1dTaTLwIy8eDOW39JnGeBRJze0IKq7H6xE8qMkPn46Ja6prZu0Z4cxeJ7dphAV1GVsAwLppcZx71N5yF1DMjK40x2NjyJmEnRtSAqi74KfJxJO2Eyqhqdj1zNLNkRyvYSt511qUlzM0nNnuG7grhXzUQaB4H8LxhfgxapFxDGQDPrcdS1Qr0aUTO4s1KsQ8KzFEZr8GRqI937HIPMEqyimKh3NXRIAGzFngkxQD7aDkB0SP6Sm9OgtWExWEPnIT92JOzaC0XAMq3REulEZFEZmERJ1554L8ZKc0gbogsBERbVL7MZbQi1S5mueb88KuGpLBqXYx9Ms6KJNYMhKeeK3bbyovX2TJ7C1Rpebg8t9UHajTna5aaIf9s8ic2sGt0gDHKPOJhz30m8ExNJNOlbtICmw2zLeFIlhGhG6uSenpjg8Wdr15qmQ7lJ7mVJtOtsUpBxmziOj1RbUAey1kd7kEt8LGf6d7ulKGXHQSPAZfKIcEEDEtR2fZ1OZFRoswksfcWy7KMt2ZLW3XO6a4Hs9aKPrQ46gnB4g7jM5Kgr6uGrfcbwMnaHK3Nt67SFZmq5aBzxTy4gkxqQLMwatCZwwwHtke1JJ4PBPKRaNVV6r89N5dcTYE4FviNlHrmjFMKXpc96Gl5a6XfADpLz14nAz3LzxXN0otLKLkI7AdFw34oYcGwbAymh9my5YQ2r2py3pqFLU6LiESAoAWkQlec6b2WtiUIpeLMDKDoVMO6YxgxEUquO0XCfb29hpVetGUMHyMBxt9qKm2Aq6sEhSNrOEgW4XG5cnGpyAU3tqY7VNysqXKkpuUuqSk8qL3e4SwV9F0q7lm68iAMqSD2s2CCf8l84wCMeqSN7gyNLART2xVaJOZ5Ldk1VfDfliGIT1Fuv4PT8bAz7uIUqc5NTBjtwKN24XLRCZBUbYsb3lfBWlZbu0Q1kWH2O6ipY9Lf37qo6pvexTFM5pzL4avuU3JHwEE7JVJyAsKTylmtnpRHXKHEDNfsNnKy4b7ghPVcneTJAQDBd6DxA5HHUuGZr8nfhDRJXEYjrIdLAta6WKUrgOt75L4rMY5ZDsKmljX46JPktI2wVg8H31r5FbKC7XsTPt799xpP4MJj0jDkFmQpWKyqA5umrnrvX0nVMR4q7a5WVFG4YFUeJgAl98515OoGCO44xGUrA30aglA9AeqSHTwQhQ4E4vnhzUkb6xDBNzp251lfyCkJvVUAskqa2AeVuemjgWYCbTdZAAM422CLrT7dJ0G4yBDVIkXnRHWVADZH56PCkZP8gS9KpcUWxQ8WuOmCqytxg83XYxQ2iEkM7tBd9jP8Pm378jQbCphAvX71YEOTNcSEE1aFbpNMj2bl5mANdV97hWx4WqZPA75fr6405wZKHzoWh3eWI3P8CW9oMtAqtWrYGuzMAlmZmlRq05LnWkBxpBFEKL0T1n7kyxkxKmSiBd2pa3cKWI9A2kB3piKVxWJX94sonJKqhWexjk0LImA1M7Kb22pI375arau38XHbeZwm1thnmFY83AeHoDLm2Q5mq17FdqNEQvgeMQJnWV2HWyJ4jqedBDboamtHqGib68zonuEEfQSCuKa5yx2roe3wOExHL2kH3BL51FMHGaXH9iDq5cSp3mz6THMTSLv4Ws2xz6h0fpz74E4N0dyxPMW3DWrQbgVZFiQLZ5aGhDI1RS9Txk4brHkos7USQfKdH1nsCDJTiGuvqIV5OkbR5aHm77H7Mn0Z4gjHvCrB6wWHjC0GAd1NL5OkJAWAHcml4e4jMt7RZhoZ8oCW06C5STxKB1Kf4jZjY6K4lR7IlZW5r4TNFcH8MXsw6evKnFONd5vLICc2CLQ6NO83U4H271SHUWa4XYBB8nM2uDsx6Aptk4nmMQg29klywYdoc4l82f0tWYcYFI65rbMEe3oOt4cBSIB9XNyR4DTRtnV8uOD46m5HmeCmXM45cCStuh0AiL051AOkmuCy2tXBu8FrWBnJUMMAiLV0FnIR5RotiEVjkHa3MsFONFrPGy02XEM2ohiGpAlA9ZMqM5F1pEuvtBqvMEh7AkDFVTZqE15c6M7bjm4ISYBhfdP40OCDjLhTwHERsMvScyquWsvX1j3KiZMxvtm7tiW3gyRkhp4sgm98IBkCs1Db9H6XOQYaKiZhksuP6VwKK781AfTbteGu2owf8FdLFEWVT73ZLMjS9ZBkzEGWNv1EGoPFWqGapdGPdSuH9m3l06FOis9qLdEJMrEQwi3K39oG8pmjo5txWC9FcqGpsTaf18j7HYG576O0AWi6AD1vnynF3aQSS1VbPM2CaQlIOrpGf2eyJIbAmCQM92Yai42sXFg89HYXMHnkHO12lqAIyVTdCMM6dub3WRMqKXKzZSRBIHG194LO64LjATDlVSpZSoaYa7J982gzviyC6obKjPB3gez3YXXapD3eMoLUGDl7unaBBFYuEfxhaqFs2QCAa4AEkN19iOvpjvN80xECurdDiSdRB5xNNM7jCePBHYdwphMN0j7FtM4ZEAlJOiFZxoSXPzGxeEuyYyNqmHHkB2PIPXsKUnq8TuX2IGQUOJH1nSM2ISvUHH1jzMHappmj7qhZCfsZLLsM5QKe07i4H7J7Y7HHGHv2V6BXSgcQbspM1IE2NCNGOJKHCFfuAZ0cz59bmCS0bRYe27xpE6f78CtU6m03tUqDJ6M"
end PySem.W.Fast
open PySem PySem.W PyProof.Rows L2 Sc K22
set_option maxRecDepth 100000 in
set_option maxHeartbeats 0 in
theorem PySem.Challenge.cw_partsmith_k13_lengths_of_bars_holds : PySem.Challenge.rw_partsmith_k13_lengths_of_bars.Holds := by
  w_on; o_law; k_head; (case hw => w_witness2)
  k_fill
  refine K22.walk (l := PySem.Challenge.rw_partsmith_k13_lengths_of_bars) rfl rfl rfl (fun w h Y => PySem.W.kIn_of Y) ?F
  case F =>
    intro w mg h X G
    exact ⟨⟨_,_,_,_,_,_,_,_,_,_,_,_,_,_,_,_,_,_,_,_,_,_,_,_,_,_,_,_,_,_,_,_,_,_,_,_,_,_,_,_,_,_,_,_,_,_,_,_,_,_,_,_,_,_,_,_,_,_,_,_,_,_,_,_,_,_,_,_,_,_,_,_,_,_,_,_,_,_,_,_,_,_,_,_,_,_,_,_,_,_,_,_,_,_,_,_,_,_,_,_,_,_,_,_,_,_,_,_,_,_,_,_,_,_,_,_,_,_,_,_,_,_,_,_,_,_,_,_,_,_,_,_,_,_,_,_,_,_,_,_,_,_,_,_,_,_,_,_,_,_,_,_,_,_,_,_,_,_,_,_,_,_,_,_,_,_,_,_,_,_,_,_,_,_, kY X G, kY X G, kY X G, kY X G, kY X G, kY X G, mq X G, kY X G, mq X G, mq X G, mq X G, mq X G, mq X G, mq X G, NJ X G, mq X G, kY X G, mq X G, mq X G, mq X G, mq X G, mq X G, mq X G, mq X G, mq X G, mq X G, mq X G, mq X G, mq X G, mq X G, mq X G, mq X G, mq X G, kY X G, kY X G, kY X G, kY X G, kY X G, NJ X G, kY X G, kY X G, kY X G, mq X G, kY X G, kY X G, kY X G, kY X G, kY X G, kY X G, kY X G, kY X G, kY X G, kY X G, NJ X G, kY X G, NJ X G, mq X G, kY X G, kY X G, kY X G, mq X G, mq X G, kY X G, NJ X G, mq X G, kY X G, kY X G, QV X G, NJ X G, mq X G, mS X G, ⟨by k_is,by k_is,by k_is,by k_is⟩, QU, mS X G, mS X G, mS X G, mS X G, mS X G, mS X G, mS X G, mS X G, mS X G, mS X G, mS X G, mS X G, QS (by k_is), mS X G, mS X G, mS X G, mS X G, mS X G, mS X G, mS X G, mS X G, mS X G, mS X G, CA X G, CA X G, CA X G, CA X G, CA X G, CA X G, CA X G, CA X G, CA X G, CA X G, CA X G, CA X G, CA X G, CA X G, CA X G, CA X G, CA X G,by k_is, by k_exc, mS X G, ⟨⟨by k_is,by k_is,by k_is,by k_is⟩, IV, IV, IV, IV, IV, IV, IV, IV, IV⟩, mS X G, QI, Qm,by k_is,by k_is,by k_is, mS X G, mS X G, mS X G, mS X G, ⟨by k_is,by k_is,by k_is⟩, ⟨by k_is,by k_is,by k_is⟩, ⟨by k_is,by k_is,by k_is⟩, ⟨by k_is,by k_is,by k_is⟩, ⟨by k_is,by k_is,by k_is⟩, ⟨by k_is,by k_is,by k_is, IV, IV⟩⟩, ⟨Qz (by k_is) (by rfl) (show List.Nodup [("player" : Str), ("instrument" : Str), ("staff" : Str), ("bar" : Str), ("upbeat" : Str), ("holds" : Str), ("notes" : Str), ("repeat" : Str), ("jump" : Str)] by decide +kernel), Qz (by k_is) (by rfl) (show List.Nodup [("player" : Str), ("instrument" : Str), ("staff" : Str), ("bar" : Str), ("upbeat" : Str), ("holds" : Str), ("notes" : Str), ("repeat" : Str), ("jump" : Str)] by decide +kernel)⟩, fun s v => .of_eq rfl⟩
