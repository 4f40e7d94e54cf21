import PyProof.Rows.All
import Wide.All
import OpenK.AllK
import Wide.FinOn
import HandS.ForMost
import HandS.Conv
import HandS.Zip
import HandS.Walk
import HandS.IsInst
import HandS.Wide
import HandS.EndBits
import HandS.TupAny
import HandS.TupMul
import HandS.Style
import HandS.Deep
import HandS.NoneIn
import HandS.TupLe
import KE.GoesMore
import KE.GoesZip
import HandS.Dict
import HandS.Codes
import HandS.SetFor
import HandS.Strs
import HandS.DictTup
import HandS.RevTup
import HandS.Exc
import HandS.ExcOwn
import HandS.WordsExc
import HandS.ExcField
import HandS.ExcInit
import KE.KExcIs
import PyProof.ExcBaseAll.LookupError
import PyProof.InstStoreFacts
import KE.KExcLine
import PyProof.StrLawsRepr
import PyProof.Rows.ReprOcc
import HandS.Iter
import HandS.Small
import PySem.Challenge.RW_postvote_k53_groups_split_and_merged
set_option Elab.async false
set_option linter.all false
set_option maxRecDepth 100000
namespace Pv
open PySem PySem.Spec PyProof.Rows L2

/-! heaps -/
theorem upNew {H : Hp} {p b : Addr} {o z : HO} (np : H p = none) (h : H b = some z) : upd H p o b = some z := by
  rw [upd_ne (ne_of_none h np)]; exact h
theorem sameNew {H : Hp} {p : Addr} {o : HO} (np : H p = none) : Same H (upd H p o) := fun _ _ e => upNew np e

/-! a def that is called where no repr is under way -/
structure FnG (P : Program) (w : World) (K : PySem.W.Frag) (mg : Str → Option Value) (base : Heap) (k : Nat) (f : Addr) (fd : FuncData) (ps : List Str) (sp : Sp) : Prop where
  cnt : ∀ vs H Q E, sp vs H Q E → vs.length = ps.length
  go : ∀ (A : Around) (outer : List Env) (s : Shared) (H : Hp) (args : Args) (us : List Value) (vs : List V) (Q : VK) (E : XK),
    A.guards = some [] → Room k A → Env0 P w K mg base A outer s H → BindsTo s fd args (ps.zip us) → Vals vs us →
    sp vs H Q E → codeAny (model P w) A (.call (.ref f) args) (CR CX0 outer P w H s Q E) s
section
variable {P : Program} {w : World} {K : PySem.W.Frag} {mg : Str → Option Value} {base : Heap}
theorem okG {x qual : Str} {st : Stmt} {f : Addr} {fd : FuncData} {N ps : List Str} {k : Nat} {sp : Sp}
    (F : Fun K x qual st f fd) (S : FnScope N ps (defScope st)) (cnt : ∀ vs H Q E, sp vs H Q E → vs.length = ps.length)
    (hbody : ∀ (cdv : Value) (A : Around) (outer : List Env) (s : Shared) (H : Hp) (vs : List V) (Q : VK) (E : XK),
      A.guards = some [] → Room k (A.deeper (envOfC qual (defScope st) s.heap.objs.size f cdv)) → sp vs H Q E →
      ∃ t, PSs (cxOf CX0 P w K mg base N qual (defScope st) f cdv A outer s H E).nox (defBody st) t ∧
        t { nx := fun _ H' => Q .non H', rt := Q } (start N vs) H) : FnG P w K mg base (k + 1) f fd ps sp := by
  obtain ⟨oc, od, kV, doc, pm, an, cdv, ct, osl, rfl, lk, hcd⟩ := F.ex
  refine ⟨cnt, ?_⟩
  intro A outer s H args us vs Q E hgd hr e0 hb r hsp
  have hl := cnt vs H Q E hsp
  have kk : ∀ b o, base.get? b = some o → s.heap.get? b = some o := fun b o e => (e0.bs b o e).1
  have KX : K.In s.heap := e0.mod.kin.keeps kk
  have lim : s.heap.NoLimit := e0.mod.nolimit.keeps kk
  refine codeAny_call_function hr.depth (KX _ _ lk) rfl S.co S.gen rfl (PySem.W.codeRec_of KX hcd)
    (hb _ _ _ _ (wpAny_newFunctionEnv_cells S.kind ?_ ?_))
  · rintro ⟨n, v⟩ hy
    rcases S.par n (List.of_mem_zip hy).1 with q | q
    · left; exact q
    · right; exact ⟨q, PySem.W.cellsFrom_some _ _ _ (Or.inl q)⟩
  · intro env he s1 x
    cases he
    refine ⟨lim.keeps x.toInCall.keep, ?_⟩
    apply codeAny_func
    obtain ⟨t, ht0, hq⟩ := hbody cdv A outer s H vs Q E hgd (hr.deeper _) hsp
    have ht := ht0.nox
    have I := inv_start (CX := CX0) (f := f) (qual := qual) (E := E) S hr.hd e0 hl r x
    refine wpAny_mono (ht.run [] s1 (start N vs) H _ I hq) ?_ (fun _ _ z => z)
    intro fl s' hs
    cases fl with
    | ret u => obtain ⟨v, σ', H', J, rv, q⟩ := hs; exact ⟨v, H', J.os, J.bare, J.base, J.hok, rv, q⟩
    | next => obtain ⟨σ', H', J, q⟩ := hs; exact ⟨V.non, H', J.os, J.bare, J.base, J.hok, rfl, q⟩
    | brk => obtain ⟨_, _, _, q⟩ := hs; exact q.elim
    | cont => obtain ⟨_, _, _, q⟩ := hs; exact q.elim
end
section
variable {X : Cx} {k : Nat} {f : Addr} {fd : FuncData} {ps : List Str} {sp : Sp} {x : Str} {p pos : Pos} {e : Expr} {es : List Expr} {t : TA}
theorem pe_callG (F : FnG X.prog X.w X.K X.mg X.base k f fd ps sp) (hgd : X.A.guards = some []) (hr : Room k X.A) (hg : Gl X x)
    (hm : X.mg x = some (.ref f)) (hk : PySem.W.keepIn X.K (.ref f) = true) (hb : Binds X.K fd ps []) (ha : PA X (e :: es) t)
    (hdb : (x == ("__debug__" : Str)) = false := by decide) (he : starEach (e :: es) X.env = (false, eval e X.env) :: starEach es X.env := by rfl)
    (hpl : (backTo pos (starEach es X.env)).any (·.1) = false := by rfl) :
    PE X (.Call (.Name x p) (e :: es) [] pos) (tCall sp [] E0 t) := by
  constructor
  intro pins s σ H Q I h
  refine wpAny_Call_Name_kw (ld_glob I hg hm ?_ hdb)
  refine PySem.W.callWith_K (h₀ := X.base) I.ok.mod.kin hk (thn (ha.run pos pins s σ H _ I h) ?_) he hpl
  rintro us s1 ⟨vs, H1, I1, r, q⟩
  refine ⟨I1.kIn, ?_⟩
  have r2 : Vals (vs ++ []) (us ++ []) := r.append .nil
  have hl : (us ++ []).length = ps.length := by rw [← r2.length]; exact F.cnt _ _ _ _ q
  refine wpAny_call (codeAny_mono (F.go X.A X.stack s1 H1 ⟨us, []⟩ (us ++ []) (vs ++ []) Q E0 hgd hr I1.env0 (hb s1 us I1.kIn hl) r2 q) ?_)
  intro rr s' hq
  match rr, hq with
  | .error e, hq => exact hq.elim
  | .ok (.ret u), hq => exact I1.after hq
  | .ok .next, hq => exact hq.elim
  | .ok .brk, hq => exact hq.elim
  | .ok .cont, hq => exact hq.elim
end
theorem lawG {P : Program} {w : World} {K : PySem.W.Frag} {mg mb : Str → Option Value} {k : Nat} {fa a : Addr} {fd : FuncData} {x : Str} {sp : Sp}
    {s₁ : Shared} {vs : List Value} {ns : List Int} (KX : K.In s₁.heap) (hns : s₁.heap.Ns mainGlobals mg) (hb : s₁.heap.Ns builtinsNs mb)
    (hbb : ∀ x : Str, x ≠ "__name__" → mb x = bootBuiltins x) (hlim : s₁.heap.NoLimit) (hg : s₁.gens = #[])
    (ha : s₁.heap.get? a = some { cls := .type "list", data := .seq vs.toArray }) (hi : IntsAre vs ns) (hl : ns.length ≤ sizeLine)
    (hr : Room k callerA) (F : ∀ base : Heap, K.In base → base.Ns mainGlobals mg → FnG P w K mg base k fa fd [x] sp)
    (hbind : ∀ (s : Shared) (u : Value), BindsTo s fd ⟨[u], []⟩ [(x, u)])
    (hsp : ∀ H : Hp, Only H → SqL K H a (ns.map V.int) → sp [.ref a] H (fun v _ => v = .bl true) E0) :
    codeAny (model P w) callerA (.call (.ref fa) ⟨[.ref a], []⟩)
      (fun r s' => r = .ok (.ret (.bool true)) ∧ OldK s₁.heap s'.heap ∧ s'.os = s₁.os ∧ AllBare s'.gens) s₁ := by
  have rv := vals_ints hi
  have lenV := hi.length
  have core : ∀ H : Hp, Only H → SqL K H a (ns.map V.int) → HOk P w H s₁.heap → (∀ b, H b ≠ none → b = a) → (H a ≠ none → K.lookup a = none) →
      codeAny (model P w) callerA (.call (.ref fa) ⟨[.ref a], []⟩)
        (fun r s' => r = .ok (.ret (.bool true)) ∧ OldK s₁.heap s'.heap ∧ s'.os = s₁.os ∧ AllBare s'.gens) s₁ := by
    intro H hO hS hok hA hK
    have noD : ∀ {b : Addr} {o : Obj} {es : Array DictEntry} {ep : Nat}, s₁.heap.get? b = some o → o.data = .dict es ep → H b = none := by
      intro b o es ep e d
      match q : H b with
      | none => rfl
      | some u =>
        obtain rfl : b = a := hA b (by rw [q]; simp)
        rw [ha] at e
        cases e
        exact absurd d (by intro z; cases z)
    have nsK : ∀ {b : Addr} {m : Str → Option Value}, s₁.heap.Ns b m → (hidT s₁.heap H).Ns b m := by
      rintro b m ⟨o, es, ep, e, d, r⟩
      exact ⟨o, es, ep, hidT_get e (noD e d), d, r⟩
    have hKb : K.In (hidT s₁.heap H) := by
      intro b o e
      refine hidT_get (KX b o e) ?_
      match q : H b with
      | none => rfl
      | some u =>
        obtain rfl : b = a := hA b (by rw [q]; simp)
        rw [hK (by rw [q]; simp)] at e
        cases e
    have hM : Mod K mg (hidT s₁.heap H) := by
      obtain ⟨mc, h1, h2⟩ := hlim
      exact ⟨hKb, nsK hns, ⟨mb, nsK hb, hbb⟩, ⟨mc, nsK h1, h2⟩⟩
    have e0 : Env0 P w K mg (hidT s₁.heap H) callerA [] s₁ H :=
      ⟨rfl, hM, fun b o e => of_hidT e, Nat.le_of_eq (hidT_size _ _), trivial, (fun b hb => by cases hb), hok, .of_eq hg⟩
    refine codeAny_mono ((F _ hKb (nsK hns)).go callerA [] s₁ H ⟨[.ref a], []⟩ [.ref a] [.ref a] _ _ rfl hr e0 (hbind s₁ (.ref a)) (.cons rfl .nil) (hsp H hO hS)) ?_
    intro r s' h
    match r, h with
    | .error e, h => exact h.elim
    | .ok .next, h => exact h.elim
    | .ok .brk, h => exact h.elim
    | .ok .cont, h => exact h.elim
    | .ok (.ret u), h =>
      obtain ⟨v, H', os, bare, un, hok', r', q⟩ := h
      cases (show v = V.bl true from q)
      cases (show u = Value.bool true from r')
      refine ⟨rfl, OldK.of_keep ?_, os, bare⟩
      intro b o e
      match q : H b with
      | none => exact un.keep b o e q (by intro z; cases z) (by intro z; cases z)
      | some u =>
        rcases hO b with z | ⟨ob, xs, z⟩
        · rw [q] at z; cases z
        · obtain ⟨e1, _⟩ := hok b _ z
          obtain ⟨e2, _⟩ := hok' b _ (un.frzs b ob _ z)
          rw [e] at e1
          cases e1
          exact e2
  match hk : K.lookup a with
  | some o =>
    have e := KX a o hk
    rw [ha] at e
    cases e
    refine core (fun _ => none) (fun _ => .inl rfl) (.inr ⟨_, vs.toArray, _, hk, rfl, rfl, rfl, ?_, by simpa using rv⟩) (fun b u z => by cases z) (fun b z => absurd rfl z) (fun z => absurd rfl z)
    rw [List.size_toArray, lenV]; exact hl
  | none =>
    let HA : Hp := fun b => if b = a then some (.frz { cls := .type "list", data := .seq vs.toArray } (.lst (ns.map V.int))) else none
    have at_a : HA a = some (.frz { cls := .type "list", data := .seq vs.toArray } (.lst (ns.map V.int))) := if_pos rfl
    have at_ne : ∀ b, b ≠ a → HA b = none := fun b h => if_neg h
    refine core HA ?_ (.inl (.inr ⟨_, at_a⟩)) ?_ ?_ (fun _ => hk)
    · intro b
      by_cases hb : b = a
      · subst hb; exact .inr ⟨_, _, at_a⟩
      · exact .inl (at_ne b hb)
    · intro b u z
      by_cases hb : b = a
      · subst hb
        rw [at_a] at z
        cases z
        exact ⟨ha, by rw [List.length_map]; exact hl, vs, _, rv, ha⟩
      · rw [at_ne b hb] at z; cases z
    · intro b z
      by_cases hb : b = a
      · exact hb
      · exact absurd (at_ne b hb) z
theorem walkG {l : PySem.W.OpenLaw} {n k : Nat} {q : Program} {loose : List Str} {XP : (Str → Option Value) → Heap → Prop} {YP : World → Heap → Prop}
    {d : DefRec} {K : Params → PySem.W.Frag} {sp : World → Sp} {x : Str} (hn : l.most = some n) (hn2 : n ≤ sizeLine) (hdf : d.params.defaults = [])
    (hr : Room k callerA) (hY : ∀ (w : World) (h : Heap), YP w h → (K w.params).In h)
    (F : ∀ (w : World) (mg : Str → Option Value) (fa : Addr) (h : Heap), (K w.params).In h → h.Ns mainGlobals mg → mg d.name = some (.ref fa) →
      ∃ fd : FuncData, (∀ (s : Shared) (u : Value), BindsTo s fd ⟨[u], []⟩ [(x, u)]) ∧
        ∀ base : Heap, (K w.params).In base → base.Ns mainGlobals mg → FnG l.prog w (K w.params) mg base k fa fd [x] (sp w))
    (hsp : ∀ (w : World) (H : Hp) (a : Addr) (ns : List Int), ns.length ≤ n → (∀ z ∈ ns, Builtin.Int.intBits z ≤ 1048576) → Only H →
      SqL (K w.params) H a (ns.map V.int) → sp w [.ref a] H (fun v _ => v = .bl true) E0) :
    PySem.W.WalkO q loose XP YP l.row.toRowW d [] (fun f vs => PySem.call f vs) := by
  refine Att.attach_callB hn hdf ?_
  intro w s₀ s₁ mg mb fa o pm cd doc a vs ns G Y ho hd hcd hmg hobj hints hlen hbits hg
  have KX := hY w _ Y
  obtain ⟨fd, hb, hF⟩ := F w mg fa _ KX G.T.g hmg
  exact lawG KX G.T.g G.T.b G.T.builtins G.T.nolimit hg hobj hints (Nat.le_trans hlen hn2) hr hF hb (fun H hO hS => hsp w H a ns hlen hbits hO hS)

/-! repr of data -/
theorem call_reprD {X : Cx} (hg : X.A.guards = some []) (hu : X.A.units + 70 < cLine) : CallR X (.builtin "repr")
    (fun xs H Q => ∃ a d, xs = [.ref a] ∧ Dp X.K H (.ref a) d ∧ d.showable = true ∧ d.hasDict = false ∧ d.depth ≤ 60 ∧
      d.shown.length ≤ sizeLine ∧ Q (.str d.shown) H) := by
  intro pins s σ H xs us Q I r h
  obtain ⟨a, d, rfl, hd, h1, h2, h3, h4, q⟩ := h
  obtain ⟨u, rfl, rfl⟩ := vals1 r
  obtain ⟨as, rd⟩ := Dp.reads I d _ _ hd rfl
  exact repr_of_reads' rd h1 (PyData.noDict_hsm h2) hg (by omega) (fun _ _ e => e) (fun h' u tk hk => ⟨.str _, H, I.kept hk, ⟨_, rfl⟩, q⟩) h4
end Pv

namespace Pv
open PySem PySem.Spec PyProof.Rows L2
theorem tup_mul0 (l : Addr) (items : Array Value) (n : Nat) (dd : Option Addr) (sl : Array (Option Value)) (u : Tok) (hi : items.isEmpty = false) :
    Meets (Builtin.«tuple.__mul__» ⟨[.ref l, .int ((0 : Nat) : Int) u], []⟩) (fun _ R s => s.heap.get? l = some { cls := .type "tuple", dict := dd, data := .seq items n, slots := sl } ∧
      R (.ok (.ret (Value.ref s.heap.objs.size))) { s with heap := s.heap.push { cls := Value.type "tuple", data := Data.seq #[] }, toks := s.toks }) :=
  .of_wp fun prog w A R s h => by
    obtain ⟨hp, g, d, tk, os⟩ := s
    obtain ⟨hl, h⟩ := h
    have f1 := AutoSeq1.idx_int
    wp_walk using AutoSeq1.wpAny_loadPart' hl
    repeat (first
      | (refine wpAny_ite_false (decide_eq_false (by simp [hi])) ?_; wp_walk using AutoSeq1.wpAny_loadPart' hl)
      | (refine wpAny_ite_true (decide_eq_true (by simp [hi])) ?_; wp_walk using AutoSeq1.wpAny_loadPart' hl))
    exact ⟨_, rfl, h⟩
theorem tup_mul1 (l : Addr) (items : Array Value) (n : Nat) (dd : Option Addr) (sl : Array (Option Value)) (u : Tok) :
    Meets (Builtin.«tuple.__mul__» ⟨[.ref l, .int ((1 : Nat) : Int) u], []⟩) (fun _ R s => s.heap.get? l = some { cls := .type "tuple", dict := dd, data := .seq items n, slots := sl } ∧
      R (.ok (.ret (Value.ref l))) s) :=
  .of_wp fun prog w A R s h => by
    obtain ⟨hp, g, d, tk, os⟩ := s
    obtain ⟨hl, h⟩ := h
    have f1 := AutoSeq1.idx_int
    wp_walk using AutoSeq1.wpAny_loadPart' hl
    repeat (first
      | (refine wpAny_ite_false (decide_eq_false (by simp)) ?_; wp_walk using AutoSeq1.wpAny_loadPart' hl)
      | (refine wpAny_ite_true (decide_eq_true (by simp)) ?_; wp_walk using AutoSeq1.wpAny_loadPart' hl))
    exact ⟨_, rfl, h⟩
def rRepA (K : PySem.W.Frag) : R2 := fun x y H Q => ∃ (l : Addr) (k : Nat) (xs : List V), x = .ref l ∧ y = .int k ∧ SqT K H l xs ∧ xs ≠ [] ∧ k ≤ 1000 ∧ xs.length ≤ 1000 ∧
    (k = 1 → Q (.ref l) H) ∧ (k ≠ 1 → ∀ p, H p = none → Q (.ref p) (upd H p (.tup (List.replicate k xs).flatten)))
abbrev RC := List V → Hp → VK → Prop
def rLenQ (K : PySem.W.Frag) : RC := fun xs H Q => ∃ (p : Addr) (ys : List V), xs = [.ref p] ∧ (SqL K H p ys ∨ SqT K H p ys) ∧ Q (.int ys.length) H
def rTupQ (K : PySem.W.Frag) : RC := fun xs H Q => ∃ (p : Addr) (ys : List V), xs = [.ref p] ∧ ((SqL K H p ys ∧ ∀ l, H l = none → Q (.ref l) (upd H l (.tup ys))) ∨ (SqT K H p ys ∧ Q (.ref p) H))
section
variable {X : Cx}
theorem call_lenQ : CallR X (.builtin "len") (rLenQ X.K) := call_len_seq
theorem call_tupQ : CallR X (.type "tuple") (rTupQ X.K) := call_tuple_of
/-- o[i] of a list, for o[i] += e -/
theorem get_list : PGet X (fun o i H Q => ∃ (p : Addr) (xs : List V) (j : Nat) (v : V), o = .ref p ∧ i = .int j ∧ SqL X.K H p xs ∧ xs[j]? = some v ∧ Q v H) := by
  intro pins s σ H o i ov iv Q I ro ri h
  obtain ⟨p, xs, j, v, rfl, rfl, hq, he, q⟩ := h
  cases ro
  obtain ⟨t, rfl⟩ := ri
  obtain ⟨its, r, pl, hz⟩ := I.list hq
  obtain ⟨u, eu, ru⟩ := r.get he
  have hj : j < its.length := (List.getElem?_eq_some_iff.mp eu).1
  have hl := r.length
  have hn := line63
  exact wpAny_getItem_list pl.isList (by omega) (by omega) (by simpa using eu) ⟨v, H, I, ru, q⟩
/-- tuple * int -/
theorem op_repA : OpR X (binaryOp .Mult) (rRepA X.K) := by
  intro pins s σ H x y v u Q I rx ry h
  obtain ⟨l, k, xs, rfl, rfl, hT, hne, h2, hz, q1, q2⟩ := h
  by_cases hk2 : 2 ≤ k
  · exact op_repT pins s σ H _ _ v u Q I rx ry ⟨l, k, xs, rfl, rfl, hT, hne, by omega, by omega, hz, by simpa using q2 (by omega)⟩
  cases rx
  obtain ⟨t, rfl⟩ := ry
  obtain ⟨its, r, ⟨⟨cls, dd, data, sl⟩, ho, hc, n, hd⟩, hs⟩ := I.tuple hT
  simp only at hc hd
  subst hc hd
  have hi : its.toArray.isEmpty = false := by
    cases its with
    | nil => exact absurd (List.eq_nil_of_length_eq_zero (by simpa using r.length)) hne
    | cons a b => rfl
  refine wpAny_binaryOp_repeat_ref (T := "tuple") (U := "int") (by decide) ⟨_, ho, rfl⟩ (fun s' => typeIs_int s' k t) noFill_tuple_mul F.fills_int_mul F.slot_int_rmul repeat_tuple F.slot_int_index.lookup
    (call_meets F.slot_int_rmul (typeIs_int s k t) F.entry_int_rmul (F.args_int_rmul_2 _ _) (int_rmul_tuple k t l its.toArray n dd sl)
      ⟨ho, rfl, ⟨_, ho, rfl⟩, ?_⟩)
  obtain hk | hk : k = 0 ∨ k = 1 := by omega
  · subst hk
    refine call_meets F.slot_tuple_mul (show s.TypeIs (.ref l) "tuple" from ⟨_, ho, rfl⟩) F.entry_tuple_mul (F.args_tuple_mul_2 _ _) (tup_mul0 l its.toArray n dd sl t hi) ⟨ho, ?_⟩
    refine ⟨.ref s.heap.objs.size, _, I.laid (t' := s.toks) (o := .tup []) (fun b ob q => Heap.get?_push_of_some _ q) (Nat.le_refl _) ?_, rfl, q2 (by decide) _ (I.hok.fresh (Nat.le_refl _))⟩
    exact ⟨Nat.zero_le _, [], .nil, IsTup.new _ _⟩
  · subst hk
    exact call_meets F.slot_tuple_mul (show s.TypeIs (.ref l) "tuple" from ⟨_, ho, rfl⟩) F.entry_tuple_mul (F.args_tuple_mul_2 _ _) (tup_mul1 l its.toArray n dd sl t) ⟨ho, ⟨.ref l, H, I, rfl, q1 rfl⟩⟩
/-- sum of a tuple of ints -/
theorem call_sumT (hc : X.calm = true) : CallR X (.builtin "sum") (fun xs H Q => ∃ (a : Addr) (ns : List Int), xs = [.ref a] ∧ SqT X.K H a (ns.map V.int) ∧ Q (.int ns.sum) H) := by
  intro pins s σ H xs us Q I r h
  obtain ⟨a, ns, rfl, hT, q⟩ := h
  obtain ⟨u, rfl, rfl⟩ := vals1 r
  obtain ⟨its, rv, ht, hz⟩ := I.tuple hT
  have hi : IntsAre its ns := rv.ints
  obtain ⟨ys, e⟩ := hi.allInts.items
  have hn : numsOf (intItems ys).toList = ns := by rw [← e]; exact hi.numsOf
  rw [nums_intItems] at hn
  rw [e] at ht
  have ht' : s.heap.IsTuple a (intItems ys) := ht
  have hlt : a < s.heap.objs.size := by obtain ⟨_, z, _⟩ := ht; exact Heap.lt_size z
  refine call_sum_walkG (wpAny_pyIter_tuple ht' ?_)
  refine ⟨_, _, _, _, _, _, numAt ys, rfl, Walks.tuple (A := X.A.in1) (I.ok.hd hc) _ a (Nat.ne_of_lt hlt) (intItems ys), ⟨⟨_, Heap.get?_push_size _ rfl, rfl, rfl⟩, ht'.push _⟩, ?_, (fun _ _ => intItems_at), ?_⟩
  · intro b hb
    show b < (s.heap.push _).objs.size
    rw [Heap.size_push]
    simp only [List.mem_cons, List.not_mem_nil, or_false] at hb
    rcases hb with rfl | rfl
    · exact Nat.lt_succ_self _
    · exact Nat.lt_succ_of_lt hlt
  · intro h' tk t' hk
    have eq : preSum (numAt ys) (intItems ys).size = ns.sum := by
      rw [preSum_eq, List.take_of_length_le (by simp [intItems]), hn]
    rw [eq]
    refine ⟨.int _, H, I.kept (t' := tk) (h' := h') ?_, ⟨_, rfl⟩, q⟩
    intro b o eb
    refine hk b o (fun hm => ?_) (Heap.get?_push_of_some _ eb)
    exact absurd (Heap.lt_size eb) ((List.mem_singleton.mp hm) ▸ Nat.lt_irrefl _)
end
theorem walk_zipT {K : PySem.W.Frag} {a b : Addr} {xs ys : List V} {n : Nat} (hn : n = min xs.length ys.length) :
    Walk (RZ.ItzT K a b) n (fun H => SqT K H a xs ∧ SqT K H b ys) (YPair (fun i => xs[i]?) (fun i => ys[i]?)) := by
  subst hn
  constructor
  · rintro i H hi ⟨q1, q2⟩
    have h1 : i < xs.length := by omega
    have h2 : i < ys.length := by omega
    exact ⟨xs, ys, xs[i], ys[i], q1, q2, by simp [h1], by simp [h2]⟩
  · rintro H ⟨q1, q2⟩
    exact ⟨xs, ys, q1, q2, by omega⟩
  · rintro i H v H' _ ⟨q1, q2⟩ ⟨T, x, z, h1, h2, h3, h4, h5⟩
    exact ⟨T, x, z, h1, h2, h3, h4 xs q1, h5 ys q2⟩
end Pv

namespace Pv
open PySem PySem.Spec PyProof.Rows L2

/-! tuples never change -/
def TupK (H H' : Hp) : Prop := ∀ b xs, (H b = some (.tup xs) → H' b = some (.tup xs)) ∧ ∀ u, H b = some (.frz u (.tup xs)) → H' b = some (.frz u (.tup xs))
theorem TupK.refl (H : Hp) : TupK H H := fun _ _ => ⟨id, fun _ => id⟩
theorem TupK.trans {H H1 H2 : Hp} (a : TupK H H1) (b : TupK H1 H2) : TupK H H2 := fun c xs => ⟨fun h => (b c xs).1 ((a c xs).1 h), fun u h => (b c xs).2 u ((a c xs).2 u h)⟩
theorem TupK.rd {H H' : Hp} (s : TupK H H') {b : Addr} {xs : List V} (h : Rd H b (.tup xs)) : Rd H' b (.tup xs) := by
  rcases h with h | ⟨o, h⟩
  · exact .inl ((s _ _).1 h)
  · exact .inr ⟨o, (s _ _).2 o h⟩
theorem TupK.of {H H' : Hp} (s : Same H H') : TupK H H' := fun _ _ => ⟨fun h => s _ _ h, fun _ h => s _ _ h⟩
theorem TupK.new {H : Hp} {p : Addr} {o : HO} (np : H p = none) : TupK H (upd H p o) := .of (sameNew np)
theorem TupK.put {H : Hp} {p : Addr} {o : HO} {ys : List V} (e : H p = some (.lst ys)) : TupK H (upd H p o) := by
  intro b xs
  refine ⟨fun h => ?_, fun u h => ?_⟩
  · rw [upd_ne (ne_of h e (by intro z; cases z))]; exact h
  · rw [upd_ne (ne_of h e (by intro z; cases z))]; exact h
theorem TupK.sq {K : PySem.W.Frag} {H H' : Hp} {a : Addr} {xs : List V} (s : TupK H H') (h : SqT K H a xs) : SqT K H' a xs := by
  rcases h with h | h
  · exact .inl (s.rd h)
  · exact .inr h

mutual
def tupOnly : PyData → Bool
  | .none | .bool _ | .int _ | .str _ => true
  | .tuple xs => tupOnlyAll xs
  | .list _ | .dict _ => false
def tupOnlyAll : List PyData → Bool
  | [] => true
  | x :: xs => tupOnly x && tupOnlyAll xs
end
mutual
theorem TupK.dp {K : PySem.W.Frag} {H H' : Hp} (s : TupK H H') : ∀ (d : PyData) (v : V), tupOnly d = true → Dp K H v d → Dp K H' v d
  | .none, v, _, h => by cases h; exact .non
  | .bool b, v, _, h => by cases h; exact .bl _
  | .int b, v, _, h => by cases h; exact .int _
  | .str b, v, _, h => by cases h; exact .str _
  | .tuple xs, v, t, h => by
    cases h with
    | tup hs ha => exact .tup (s.sq hs) (TupK.dpAll s xs _ (by simpa [tupOnly] using t) ha)
  | .list _, v, t, _ => by simp [tupOnly] at t
  | .dict _, v, t, _ => by simp [tupOnly] at t
theorem TupK.dpAll {K : PySem.W.Frag} {H H' : Hp} (s : TupK H H') : ∀ (ds : List PyData) (vs : List V), tupOnlyAll ds = true → DpAll K H vs ds → DpAll K H' vs ds
  | [], vs, _, h => by cases h; exact .nil
  | d :: ds, vs, t, h => by
    have t' : tupOnly d = true ∧ tupOnlyAll ds = true := by simpa [tupOnlyAll] using t
    cases h with
    | cons h1 h2 => exact .cons (TupK.dp s d _ t'.1 h1) (TupK.dpAll s ds _ t'.2 h2)
end
theorem tupOnlyAll_of {ds : List PyData} (h : ∀ d ∈ ds, tupOnly d = true) : tupOnlyAll ds = true := by
  induction ds with
  | nil => simp [tupOnlyAll]
  | cons d ds ih => simp [tupOnlyAll, h d (by simp), ih (fun e he => h e (by simp [he]))]

/-! data -/
abbrev Gp := List Int × Int
def dI (ns : List Int) : PyData := .tuple (ns.map .int)
def dGrp (g : Gp) : PyData := .tuple [dI g.1, .int g.2]
def dInst (cs : List Int) (gs : List Gp) : PyData := .tuple [dI cs, .tuple (gs.map dGrp)]
def dAsg (rows : List (List Int)) : PyData := .tuple (rows.map dI)
theorem to_ints (ns : List Int) : tupOnlyAll (ns.map PyData.int) = true := tupOnlyAll_of (by intro d hd; obtain ⟨n, _, rfl⟩ := List.mem_map.mp hd; simp [tupOnly])
theorem to_dI (ns : List Int) : tupOnly (dI ns) = true := by simp [dI, tupOnly, to_ints]
theorem to_dGrp (g : Gp) : tupOnly (dGrp g) = true := by simp [dGrp, tupOnly, tupOnlyAll, to_dI]
theorem to_grps (gs : List Gp) : tupOnlyAll (gs.map dGrp) = true := tupOnlyAll_of (by intro d hd; obtain ⟨n, _, rfl⟩ := List.mem_map.mp hd; exact to_dGrp n)
theorem to_rows (rs : List (List Int)) : tupOnlyAll (rs.map dI) = true := tupOnlyAll_of (by intro d hd; obtain ⟨n, _, rfl⟩ := List.mem_map.mp hd; exact to_dI n)
theorem to_dInst (cs : List Int) (gs : List Gp) : tupOnly (dInst cs gs) = true := by simp [dInst, tupOnly, tupOnlyAll, to_dI, to_grps]
theorem to_dAsg (rs : List (List Int)) : tupOnly (dAsg rs) = true := by simp [dAsg, tupOnly, to_rows]

section
variable {K : PySem.W.Frag} {H : Hp}
theorem DpAll.len : ∀ {vs : List V} {ds : List PyData}, DpAll K H vs ds → vs.length = ds.length
  | _, _, .nil => rfl
  | _, _, .cons _ t => by simp [DpAll.len t]
theorem DpAll.ints : ∀ {ns : List Int} {vs : List V}, DpAll K H vs (ns.map PyData.int) → vs = ns.map V.int
  | [], _, h => by cases h; rfl
  | n :: ns, _, h => by
    cases h with
    | cons h1 h2 => cases h1; rw [DpAll.ints h2]; rfl
theorem dp_ints : ∀ (ns : List Int), DpAll K H (ns.map V.int) (ns.map PyData.int)
  | [] => .nil
  | n :: ns => .cons (.int n) (dp_ints ns)
theorem DpAll.at : ∀ {vs : List V} {ds : List PyData} {i : Nat} {v : V}, DpAll K H vs ds → vs[i]? = some v → ∃ d, ds[i]? = some d ∧ Dp K H v d
  | _, _, _, _, .nil, e => by simp at e
  | _, _, 0, _, .cons h _, e => by simp at e; subst e; exact ⟨_, rfl, h⟩
  | _, _, i + 1, v, .cons _ t, e => by
    obtain ⟨d, h1, h2⟩ := DpAll.at (i := i) t (by simpa using e)
    exact ⟨d, by simpa using h1, h2⟩
theorem DpAll.snoc : ∀ {vs : List V} {ds : List PyData} {v : V} {d : PyData}, DpAll K H vs ds → Dp K H v d → DpAll K H (vs ++ [v]) (ds ++ [d])
  | _, _, _, _, .nil, h => .cons h .nil
  | _, _, _, _, .cons h t, h' => .cons h (DpAll.snoc t h')
theorem sq_dI {a : Addr} {ns : List Int} (h : Dp K H (.ref a) (dI ns)) : SqT K H a (ns.map V.int) := by
  cases h with
  | tup hs ha => rw [DpAll.ints ha] at hs; exact hs
theorem dI_sq {a : Addr} {ns : List Int} (h : SqT K H a (ns.map V.int)) : Dp K H (.ref a) (dI ns) := .tup h (dp_ints ns)
theorem dI_ref {v : V} {ns : List Int} (h : Dp K H v (dI ns)) : ∃ a, v = .ref a ∧ SqT K H a (ns.map V.int) := by
  cases h with
  | tup hs ha => rw [DpAll.ints ha] at hs; exact ⟨_, rfl, hs⟩
theorem grp_ref {v : V} {g : Gp} (h : Dp K H v (dGrp g)) : ∃ a p, v = .ref a ∧ SqT K H a [.ref p, .int g.2] ∧ SqT K H p (g.1.map V.int) := by
  cases h with
  | tup hs ha =>
    cases ha with
    | cons h1 h2 =>
      cases h2 with
      | cons h3 h4 =>
        cases h4
        cases h3
        obtain ⟨p, rfl, hp⟩ := dI_ref h1
        exact ⟨_, p, rfl, hs, hp⟩
theorem inst_open {v : V} {cs : List Int} {gs : List Gp} (h : Dp K H v (dInst cs gs)) :
    ∃ a c g xs, v = .ref a ∧ SqT K H a [.ref c, .ref g] ∧ SqT K H c (cs.map V.int) ∧ SqT K H g xs ∧ DpAll K H xs (gs.map dGrp) := by
  cases h with
  | tup hs ha =>
    cases ha with
    | cons h1 h2 =>
      cases h2 with
      | cons h3 h4 =>
        cases h4
        obtain ⟨c, rfl, hc⟩ := dI_ref h1
        cases h3 with
        | tup hg hx => exact ⟨_, c, _, _, rfl, hs, hc, hg, hx⟩
theorem asg_open {v : V} {rs : List (List Int)} (h : Dp K H v (dAsg rs)) : ∃ a xs, v = .ref a ∧ SqT K H a xs ∧ DpAll K H xs (rs.map dI) := by
  cases h with
  | tup hg hx => exact ⟨_, _, rfl, hg, hx⟩
end

/-! what repr wants of data -/
structure Fine (k B : Nat) (d : PyData) : Prop where
  sh : d.showable = true
  nd : d.hasDict = false
  dp : d.depth ≤ k
  ln : d.shown.length ≤ B
theorem Fine.mono {k k' B B' : Nat} {d : PyData} (h : Fine k B d) (hk : k ≤ k') (hB : B ≤ B') : Fine k' B' d := ⟨h.sh, h.nd, Nat.le_trans h.dp hk, Nat.le_trans h.ln hB⟩
theorem fine_int {i : Int} (h : i.natAbs < 10 ^ 20) : Fine 0 25 (.int i) := by
  refine ⟨?_, by simp [PyData.hasDict], by simp [PyData.depth], ?_⟩
  · simp only [PyData.showable, decide_eq_true_eq]
    have : i.natAbs.log2 < 100 := by
      by_cases h0 : i.natAbs = 0
      · rw [h0]; decide
      · exact (Nat.log2_lt h0).mpr (Nat.lt_trans h (by decide))
    omega
  · have e := int_text_length_le10 (k := 20) (by decide) h
    show (Str.ofString (toString i)).length ≤ 25
    rw [PySem.ofString_length]
    omega
theorem fine_all {k B : Nat} : ∀ {xs : List PyData}, (∀ x ∈ xs, Fine k B x) → PyData.showableAll xs = true ∧ PyData.hasDictAll xs = false ∧ PyData.depthAll xs ≤ k ∧ ((PyData.shownAll xs).map (·.length)).sum ≤ xs.length * B ∧ (PyData.shownAll xs).length = xs.length
  | [], _ => by simp [PyData.showableAll, PyData.hasDictAll, PyData.depthAll, PyData.shownAll]
  | x :: xs, h => by
    obtain ⟨h1, h2, h3, h4, h5⟩ := fine_all (xs := xs) (fun y hy => h y (by simp [hy]))
    have hx := h x (by simp)
    refine ⟨by simp [PyData.showableAll, hx.sh, h1], by simp [PyData.hasDictAll, hx.nd, h2], ?_, ?_, ?_⟩
    · simp only [PyData.depthAll]; have := hx.dp; omega
    · simp only [PyData.shownAll, List.map_cons, List.sum_cons, List.length_cons]; have := hx.ln; rw [Nat.succ_mul]; omega
    · simp [PyData.shownAll, h5]
theorem fine_tup {k B n : Nat} {xs : List PyData} (h : ∀ x ∈ xs, Fine k B x) (hn : xs.length ≤ n) : Fine (k + 1) (n * (B + 2) + 3) (.tuple xs) := by
  obtain ⟨h1, h2, h3, h4, h5⟩ := fine_all h
  refine ⟨by simp only [PyData.showable]; exact h1, by simp only [PyData.hasDict]; exact h2, by simp only [PyData.depth]; omega, ?_⟩
  simp only [PyData.shown]
  have e := tupleText_len_le (PyData.shownAll xs)
  rw [h5] at e
  have m : xs.length * (B + 2) ≤ n * (B + 2) := Nat.mul_le_mul_right _ hn
  rw [Nat.mul_add] at m
  omega
theorem fine_lst {k B n : Nat} {xs : List PyData} (h : ∀ x ∈ xs, Fine k B x) (hn : xs.length ≤ n) : Fine (k + 1) (n * (B + 2) + 3) (.list xs) := by
  obtain ⟨h1, h2, h3, h4, h5⟩ := fine_all h
  refine ⟨by simp only [PyData.showable]; exact h1, by simp only [PyData.hasDict]; exact h2, by simp only [PyData.depth]; omega, ?_⟩
  simp only [PyData.shown]
  have e := listText_len_le (PyData.shownAll xs)
  rw [h5] at e
  have m : xs.length * (B + 2) ≤ n * (B + 2) := Nat.mul_le_mul_right _ hn
  rw [Nat.mul_add] at m
  omega
theorem fine_dI {ns : List Int} {n : Nat} (h : ∀ i ∈ ns, i.natAbs < 10 ^ 20) (hn : ns.length ≤ n) : Fine 1 (n * 27 + 3) (dI ns) := by
  refine fine_tup (B := 25) ?_ (by simpa using hn)
  intro d hd
  obtain ⟨i, hi, rfl⟩ := List.mem_map.mp hd
  exact fine_int (h i hi)

/-! the drawing state of the law: a list of the cells, the rests and the turn -/
structure DS (H : Hp) (st c r : Addr) (t : Nat) : Prop where
  hs : H st = some (.lst [.ref c, .ref r, .int t])
  ex : ∃ cells rests : List Int, H c = some (.lst (cells.map V.int)) ∧ H r = some (.lst (rests.map V.int)) ∧ cells.length = rests.length ∧
    0 < cells.length ∧ cells.length ≤ 100 ∧ ∀ x ∈ rests, 0 ≤ x
  n1 : c ≠ r
  n2 : st ≠ c
  n3 : st ≠ r
def Ext (st r : Addr) (H H' : Hp) : Prop := ∀ b o, H b = some o → b ≠ st → b ≠ r → H' b = some o
section
variable {H H1 H2 : Hp} {st c r p : Addr} {t : Nat} {o : HO}
theorem Ext.trans (a : Ext st r H H1) (b : Ext st r H1 H2) : Ext st r H H2 := fun x o h n1 n2 => b x o (a x o h n1 n2) n1 n2
theorem Ext.of (s : Same H H1) : Ext st r H H1 := fun b o h _ _ => s b o h
theorem Ext.tup (d : DS H st c r t) (e : Ext st r H H1) : TupK H H1 := by
  obtain ⟨cells, rests, hc, hr, _⟩ := d.ex
  intro b xs
  refine ⟨fun h => ?_, fun u h => ?_⟩
  · exact e _ _ h (ne_of h d.hs (by intro z; cases z)) (ne_of h hr (by intro z; cases z))
  · exact e _ _ h (ne_of h d.hs (by intro z; cases z)) (ne_of h hr (by intro z; cases z))
theorem DS.same (d : DS H st c r t) (s : Same H H1) : DS H1 st c r t := by
  obtain ⟨cells, rests, hc, hr, q⟩ := d.ex
  exact ⟨s _ _ d.hs, ⟨cells, rests, s _ _ hc, s _ _ hr, q⟩, d.n1, d.n2, d.n3⟩
theorem DS.new (d : DS H st c r t) (np : H p = none) : DS (upd H p o) st c r t := d.same (sameNew np)
theorem DS.put (d : DS H st c r t) (h1 : p ≠ st) (h2 : p ≠ c) (h3 : p ≠ r) : DS (upd H p o) st c r t := by
  obtain ⟨cells, rests, hc, hr, q⟩ := d.ex
  exact ⟨by rw [upd_ne h1.symm]; exact d.hs, ⟨cells, rests, by rw [upd_ne h2.symm]; exact hc, by rw [upd_ne h3.symm]; exact hr, q⟩, d.n1, d.n2, d.n3⟩
/-- an address that was free while the state stood is none of its own -/
theorem DS.off (d : DS H st c r t) (np : H p = none) : p ≠ st ∧ p ≠ c ∧ p ≠ r := by
  obtain ⟨cells, rests, hc, hr, q⟩ := d.ex
  exact ⟨(ne_of_none d.hs np).symm, (ne_of_none hc np).symm, (ne_of_none hr np).symm⟩
end
end Pv

namespace Pv
open PySem PySem.Spec PyProof.Rows L2
/-! enumerate of a tuple -/
theorem enumT_new (l : Addr) (items : Array Value) (n : Nat) (dct : Option Addr) (sl : Array (Option Value)) :
    Meets (Builtin.«enumerate.__new__» ⟨[.type "enumerate", .ref l], []⟩) (fun _ R s =>
      s.heap.get? l = some { cls := .type "tuple", dict := dct, data := .seq items n, slots := sl } ∧
      R (.ok (.ret (.ref (s.heap.push { cls := .type "tuple_iterator", data := .fields #[.ref l, .int 0 0] }).objs.size)))
        { s with heap := Heap.push (s.heap.push { cls := .type "tuple_iterator", data := .fields #[.ref l, .int 0 0] }) { cls := .type "enumerate", data := .fields #[.none, .bool false, .ref s.heap.objs.size, rawInt 0, .none, .none] } }) :=
  .of_wp fun prog w A R s h => by
    obtain ⟨hp, g, d, tk, os⟩ := s
    obtain ⟨hl, h⟩ := h
    have hsub := sub_enumerate
    have hL : Heap.IsTuple (Shared.heap ⟨hp, g, d, tk, os⟩) l items := ⟨_, hl, rfl, n, rfl⟩
    wp_walk using AutoSeq1.wpAny_loadPart' hl
    refine wpAny_stack_any fun st => wpAny_pure ?_
    split
    · rename_i c _ _ _ _ _
      cases (c == Value.type "enumerate") <;>
        (wp_walk using AutoSeq1.wpAny_loadPart' hl, wpAny_pyIter_tuple hL; exact ⟨_, rfl, h⟩)
    · wp_walk using AutoSeq1.wpAny_loadPart' hl, wpAny_pyIter_tuple hL
      exact ⟨_, rfl, h⟩
theorem call_enumT {prog : Program} {w : World} {A : Around} {E : Value → Shared → Prop} {s : Shared} {l : Addr} {items : Array Value} {Q : Value → Shared → Prop} (hL : s.heap.IsTuple l items)
    (h : ∀ h', IsEnum h' (s.heap.objs.size + 1) s.heap.objs.size 0 .none → h'.IsTupleIter s.heap.objs.size l 0 →
      (∀ b o, s.heap.get? b = some o → h'.get? b = some o) → Q (.ref (s.heap.objs.size + 1)) { s with heap := h' }) :
    wpAny (model prog w) A (call (.type "enumerate") [.ref l]) Q E s := by
  obtain ⟨⟨c, dct, dt, sl⟩, hl, hc, n, hd⟩ := hL
  simp only at hc hd
  subst hc hd
  refine callType_new F.called_enumerate (by decide) (F.typeCall_enumerate_1 _) (F.newCall_enumerate_1 _) (fun obj => F.args_object_init_2 obj _) F.entry_enumerate_new (enumT_new l items n dct sl) ⟨hl, ?_⟩
  have hz : (s.heap.push { cls := .type "tuple_iterator", data := .fields #[.ref l, .int 0 0] }).objs.size = s.heap.objs.size + 1 := Heap.size_push ..
  show _ ∧ _
  rw [hz]
  have ge : IsEnum (Heap.push (s.heap.push { cls := .type "tuple_iterator", data := .fields #[.ref l, .int 0 0] }) { cls := .type "enumerate", data := .fields #[.none, .bool false, .ref s.heap.objs.size, rawInt 0, .none, .none] }) (s.heap.objs.size + 1) s.heap.objs.size 0 .none := by
    rw [← hz]
    exact Heap.get?_push_size _ rfl
  exact ⟨⟨_, ge, rfl⟩, h _ ge ⟨_, Heap.get?_push_of_some _ (Heap.get?_push_size _ rfl), rfl, rfl⟩ fun b o x => Heap.get?_push_of_some _ (Heap.get?_push_of_some _ x)⟩
def IteT (K : PySem.W.Frag) (a : Addr) : It :=
  ⟨fun i H => ∃ (xs : List V) (x : V), SqT K H a xs ∧ xs[i]? = some x,
   fun i H v H' => ∃ T x, v = .ref T ∧ H T = none ∧ H' = upd H T (.tup [.int (i : Nat), x]) ∧ ∀ xs, SqT K H a xs → xs[i]? = some x,
   fun i H => ∃ xs : List V, SqT K H a xs ∧ xs.length = i⟩
theorem tupLt {h : Heap} {a : Addr} {its : Array Value} (p : IsTup h a its) : a < h.objs.size := by obtain ⟨_, e, _⟩ := p; exact Heap.lt_size e
theorem turn_enumT {P : Program} {w : World} {K : PySem.W.Frag} {elts : List Expr} {kk : Nat} {tpos : Pos} (a e it : Addr) :
    Turn P w K (.Tuple elts kk tpos) (IteT K a) [e, it] e (fun i h => (∃ old, IsEnum h e it ((i : Nat) : Int) old) ∧ h.IsTupleIter it a i ∧ e ≠ it) where
  mem := by simp
  obj := by
    rintro i h ⟨⟨old, he⟩, ⟨o, ho, hc, hd⟩, _⟩ b hb
    simp only [List.mem_cons, List.not_mem_nil, or_false] at hb
    rcases hb with rfl | rfl
    · exact ⟨_, he, fun v q => nomatch q⟩
    · exact ⟨o, ho, fun v q => by rw [hd] at q; cases q⟩
  keep := by
    rintro i h h' ⟨⟨old, he⟩, hi, hne⟩ k
    exact ⟨⟨old, k e (by simp) _ he⟩, hi.at fun o q => k it (by simp) o q, hne⟩
  item := by
    intro X hP hw hK hc i pins s σ H E I hf st hg
    subst hP hw hK
    obtain ⟨⟨old, he⟩, hit, hne⟩ := st
    obtain ⟨xs, x, hq, hx⟩ := hg
    obtain ⟨its, rv, p, hz⟩ := I.tuple hq
    obtain ⟨u, hu, ru⟩ := rv.get hx
    have hel : e < s.heap.objs.size := Heap.lt_size he
    have hil : it < s.heap.objs.size := by obtain ⟨_, q, _⟩ := hit; exact Heap.lt_size q
    have nea : e ≠ a := by
      rintro rfl
      obtain ⟨o, ho, hcl, _⟩ := p
      rw [he] at ho
      cases ho
      injection hcl with hcl
      exact absurd hcl (by decide)
    have nia : a ≠ it := by
      rintro rfl
      obtain ⟨o, ho, hcl, _⟩ := p
      obtain ⟨o2, ho2, hcl2, _⟩ := hit
      rw [ho] at ho2
      cases ho2
      rw [hcl] at hcl2
      injection hcl2 with hcl2
      exact absurd hcl2 (by decide)
    have hlt : i < its.toArray.size := by have := (List.getElem?_eq_some_iff.mp hu).1; simpa using this
    refine wpAny_pyNext_enum_itemD (Draws.tuple (A := X.A.in1) (I.ok.hd hc) it a nia its.toArray) he ⟨hit, p⟩ hlt hne (by simp [hne, nea]) ?_
    intro u' h' tk hu' ho st' hT hsz hk
    have hu2 : its.toArray[i]? = some u' := hu'
    have : u' = u := by
      have h3 : its.toArray[i]? = some u := by simpa using hu
      rw [h3] at hu2
      exact (Option.some.inj hu2).symm
    subst this
    refine ⟨_, rfl, wpAny_letOwnedTupleGo_enum (s := { s with heap := h', toks := tk + 1 }) ho fun h'' he' sb => ?_⟩
    have hT2 : h''.get? s.heap.objs.size = some { cls := .type "tuple", data := .seq #[.int i tk, u'] } := (sb.2 _ (Nat.ne_of_gt hel)).trans hT
    have new : ObjOk X.prog X.w (upd H s.heap.objs.size (.tup [.int (i : Nat), x])) h'' s.heap.objs.size (.tup [.int (i : Nat), x]) :=
      ⟨by show 2 ≤ sizeLine; decide, [.int i tk, u'], .cons ⟨_, rfl⟩ (.cons ru .nil), ⟨_, hT2, rfl, _, rfl⟩⟩
    have kk : ∀ b ob, b ∉ [e, it] → s.heap.get? b = some ob → h''.get? b = some ob := by
      intro b ob hb q
      have h1 : b ≠ e := fun z => hb (by simp [z])
      have h2 : b ≠ it := fun z => hb (by simp [z])
      exact (sb.2 b h1).trans (hk b ob h1 h2 q)
    have I1 : Inv X pins σ (upd H s.heap.objs.size (.tup [.int (i : Nat), x])) { s with heap := h'', toks := tk + 1 } :=
      I.turnedNew (ch := [e, it]) kk hf (Nat.le_refl _) new
    refine ⟨.ref s.heap.objs.size, _, I1, rfl, ⟨_, x, rfl, I.hok.fresh (Nat.le_refl _), rfl, fun ys hy => by rw [I.tuple_inj hy hq]; exact hx⟩, ⟨⟨u', ?_⟩, st'.1.at fun o q => (sb.2 it (Ne.symm hne)).trans q, hne⟩, fun b hb => ?_⟩
    · rw [show ((i + 1 : Nat) : Int) = (i : Int) + 1 by omega]; exact he'
    · have hb' : b < s.heap.objs.size := by
        simp only [List.mem_cons, List.not_mem_nil, or_false] at hb
        rcases hb with rfl | rfl <;> assumption
      rw [upd_ne (Nat.ne_of_lt hb')]
      exact (hf b hb).1
  done := by
    intro X hP hw hK hc i pins s σ H E I hf st hg
    subst hP hw hK
    obtain ⟨⟨old, he⟩, hit, hne⟩ := st
    obtain ⟨xs, hq, hx⟩ := hg
    obtain ⟨its, rv, p, hz⟩ := I.tuple hq
    obtain ⟨f0, f1, f2, f3, f4, f5⟩ := hf it (by simp)
    have hl := rv.length
    have nia : a ≠ it := by
      rintro rfl
      obtain ⟨o, ho, hcl, _⟩ := p
      obtain ⟨o2, ho2, hcl2, _⟩ := hit
      rw [ho] at ho2
      cases ho2
      rw [hcl] at hcl2
      injection hcl2 with hcl2
      exact absurd hcl2 (by decide)
    have hi : i = its.toArray.size := by rw [List.size_toArray]; omega
    refine wpAny_pyNext_enum_endD (Draws.tuple (A := X.A.in1) (I.ok.hd hc) it a nia its.toArray) he (by rw [← hi]; exact ⟨hit, p⟩) fun h' eb => ⟨rfl, I.turned (t' := s.toks) (fun b o hb q => eb b o hb q) f0 f1 f3 f4 f5⟩
  self := by
    rintro A i s Q E ⟨⟨_, he⟩, _⟩ h
    exact wpAny_pyIter_enum he h
def iEnumT (K : PySem.W.Frag) (ta : TA) : TI := fun σ H R => ta σ H fun vs H1 => ∃ a xs, vs = [.ref a] ∧ SqT K H1 a xs ∧ R (IteT K a) H1
theorem pi_enumT {X : Cx} {e : Expr} {ta : TA} {p pos tpos : Pos} {elts : List Expr} {kk : Nat} (hg : Gl X "enumerate") (hm : X.mg "enumerate" = none) (ha : PA X [e] ta)
    (hs : starEach [e] X.env = [(false, eval e X.env)] := by rfl) : PI X (.Tuple elts kk tpos) (.Call (.Name "enumerate" p) [e] [] pos) (iEnumT X.K ta) := by
  constructor
  intro pins s σ H R I h
  refine Call_ (ld_blt I hg hm boot_enumerate (PyProof.Rows.callWith_type1 (thn (ha.run pos pins s σ H _ I h) ?_) hs rfl))
  rintro us s1 ⟨vs, H1, I1, r1, a, xs, rfl, hq, q⟩
  obtain ⟨u, rfl, rfl⟩ := vals1 r1
  obtain ⟨its, rv, p', hz⟩ := I1.tuple hq
  refine call_enumT (show s1.heap.IsTuple a its.toArray from p') fun h' he hit hk => wpAny_pyIter_enum he ?_
  have I2 : Inv X pins σ H1 { s1 with heap := h' } := I1.kept (t' := s1.toks) hk
  refine ⟨s1.heap.objs.size + 1, [s1.heap.objs.size + 1, s1.heap.objs.size], _, _, H1, rfl, I2, turn_enumT a (s1.heap.objs.size + 1) s1.heap.objs.size, ⟨⟨.none, he⟩, hit, Nat.succ_ne_self _⟩, ?_, q⟩
  intro b hb
  have hle : s1.heap.objs.size ≤ b := by
    simp only [List.mem_cons, List.not_mem_nil, or_false] at hb
    rcases hb with rfl | rfl <;> omega
  exact I1.fpOk hle (I1.hok.fresh hle)
theorem walk_enumT {K : PySem.W.Frag} {a : Addr} {xs : List V} : Walk (IteT K a) xs.length (fun H => SqT K H a xs) (YPair (fun i => some (.int (i : Nat))) (fun i => xs[i]?)) := by
  constructor
  · intro i H hi q
    exact ⟨xs, xs[i], q, by simp [hi]⟩
  · intro H q
    exact ⟨xs, q, rfl⟩
  · rintro i H v H' _ q ⟨T, x, h1, h2, h3, h4⟩
    exact ⟨T, _, x, h1, h2, h3, rfl, h4 xs q⟩
/-! zip of a list and a tuple -/
abbrev zm1 (h : Heap) (l1 : Addr) : Heap := h.push { cls := .type "list_iterator", data := .fields #[.ref l1, .int 0 0] }
abbrev zm2 (h : Heap) (l1 l2 : Addr) : Heap := (zm1 h l1).push { cls := .type "tuple_iterator", data := .fields #[.ref l2, .int 0 0] }
abbrev zm3 (h : Heap) (l1 l2 : Addr) : Heap := (zm2 h l1 l2).push { cls := .type "tuple", data := .seq #[.ref h.objs.size, .ref (zm1 h l1).objs.size] }
abbrev zm4 (h : Heap) (l1 l2 : Addr) : Heap := (zm3 h l1 l2).push { cls := .type "tuple", data := .seq #[.none, .none] }
abbrev zm5 (h : Heap) (l1 l2 : Addr) : Heap := (zm4 h l1 l2).push { cls := .type "zip", data := .fields #[.none, .bool false, .bool false, .ref (zm2 h l1 l2).objs.size, .ref (zm3 h l1 l2).objs.size] }
theorem zipM_new (l1 l2 : Addr) (xs ys : Array Value) :
    Meets (Builtin.«zip.__new__» ⟨[.type "zip", .ref l1, .ref l2], []⟩) (fun _ R s => s.heap.IsList l1 xs ∧ s.heap.IsTuple l2 ys ∧
      R (.ok (.ret (.ref (zm4 s.heap l1 l2).objs.size))) { s with heap := zm5 s.heap l1 l2 }) :=
  .of_wp fun prog w A R s h => by
    obtain ⟨hp, g, d, tk, os⟩ := s
    obtain ⟨hl1, hl2, h⟩ := h
    have hsub := sub_zip
    have hL1 : Heap.IsList (Shared.heap ⟨hp, g, d, tk, os⟩) l1 xs := hl1
    have hL2 : Heap.IsTuple (Shared.heap ⟨zm1 hp l1, g, d, tk, os⟩) l2 ys := Heap.IsTuple.push hl2 _
    wp_walk using wpAny_pyIter_list hL1, wpAny_pyIter_tuple hL2
    exact ⟨_, rfl, h⟩
theorem call_zipM {prog : Program} {w : World} {A : Around} {E : Value → Shared → Prop} {s : Shared} {l1 l2 : Addr} {xs ys : Array Value} {Q : Value → Shared → Prop} (hl1 : s.heap.IsList l1 xs) (hl2 : s.heap.IsTuple l2 ys)
    (h : ∀ h', IsZip h' (s.heap.objs.size + 4) (s.heap.objs.size + 2) (s.heap.objs.size + 3) .none → IsPair h' (s.heap.objs.size + 2) (.ref s.heap.objs.size) (.ref (s.heap.objs.size + 1)) →
      IsPair h' (s.heap.objs.size + 3) .none .none → h'.IsListIter s.heap.objs.size l1 0 → h'.IsTupleIter (s.heap.objs.size + 1) l2 0 →
      (∀ c o, s.heap.get? c = some o → h'.get? c = some o) → Q (.ref (s.heap.objs.size + 4)) { s with heap := h' }) :
    wpAny (model prog w) A (call (.type "zip") [.ref l1, .ref l2]) Q E s := by
  refine callType_new F.called_zip (by decide) (F.typeCall_zip_2 _ _) (F.newCall_zip_2 _ _) (fun obj => F.args_object_init_3 obj _ _) F.entry_zip_new (zipM_new l1 l2 xs ys) ⟨hl1, hl2, ?_⟩
  have z1 : (zm1 s.heap l1).objs.size = s.heap.objs.size + 1 := Heap.size_push ..
  have z2 : (zm2 s.heap l1 l2).objs.size = s.heap.objs.size + 2 := by rw [Heap.size_push, z1]
  have z3 : (zm3 s.heap l1 l2).objs.size = s.heap.objs.size + 3 := by rw [Heap.size_push, z2]
  have z4 : (zm4 s.heap l1 l2).objs.size = s.heap.objs.size + 4 := by rw [Heap.size_push, z3]
  have g5 : (zm5 s.heap l1 l2).get? (zm4 s.heap l1 l2).objs.size = some _ := Heap.get?_push_size _ rfl
  have g4 : (zm5 s.heap l1 l2).get? (zm3 s.heap l1 l2).objs.size = some _ := Heap.get?_push_of_some _ (Heap.get?_push_size _ rfl)
  have g3 : (zm5 s.heap l1 l2).get? (zm2 s.heap l1 l2).objs.size = some _ := Heap.get?_push_of_some _ (Heap.get?_push_of_some _ (Heap.get?_push_size _ rfl))
  have g2 : (zm5 s.heap l1 l2).get? (zm1 s.heap l1).objs.size = some _ := Heap.get?_push_of_some _ (Heap.get?_push_of_some _ (Heap.get?_push_of_some _ (Heap.get?_push_size _ rfl)))
  have g1 : (zm5 s.heap l1 l2).get? s.heap.objs.size = some _ := Heap.get?_push_of_some _ (Heap.get?_push_of_some _ (Heap.get?_push_of_some _ (Heap.get?_push_of_some _ (Heap.get?_push_size _ rfl))))
  show _ ∧ _
  rw [z2, z3, z4] at g5
  rw [z1, z2] at g3
  rw [z3] at g4
  rw [z1] at g2
  rw [z4]
  refine ⟨⟨_, g5, rfl⟩, h _ g5 g3 g4 ⟨_, g1, rfl, rfl⟩ ⟨_, g2, rfl, rfl⟩ ?_⟩
  intro c o x
  exact Heap.get?_push_of_some _ (Heap.get?_push_of_some _ (Heap.get?_push_of_some _ (Heap.get?_push_of_some _ (Heap.get?_push_of_some _ x))))
def ItzM (K : PySem.W.Frag) (a b : Addr) : It :=
  ⟨fun i H => ∃ (xs ys : List V) (x y : V), SqL K H a xs ∧ SqT K H b ys ∧ xs[i]? = some x ∧ ys[i]? = some y,
   fun i H v H' => ∃ T x y, v = .ref T ∧ H T = none ∧ H' = upd H T (.tup [x, y]) ∧ (∀ xs, SqL K H a xs → xs[i]? = some x) ∧ ∀ ys, SqT K H b ys → ys[i]? = some y,
   fun i H => ∃ xs ys : List V, SqL K H a xs ∧ SqT K H b ys ∧ min xs.length ys.length = i⟩
theorem sepM {z TI TO i1 i2 a b : Addr} (D : ZipApart z TI TO i1 i2 a b) : ZipSep2 z TI TO i1 i2 [i1, a] [i2, b] := by
  refine ⟨D.TIz, D.TOz, D.TITO, D.TIi1, by simp, ?_, ?_, D.TIi2, by simp, ?_, ?_, ?_, ?_⟩ <;>
    simp only [List.mem_cons, List.not_mem_nil, or_false, not_or]
  · exact ⟨D.i1z.symm, D.l1z.symm⟩
  · exact ⟨D.TOi1, D.l1TO.symm⟩
  · exact ⟨D.i2z.symm, D.l2z.symm⟩
  · exact ⟨D.TOi2, D.l2TO.symm⟩
  · exact ⟨D.i12, D.l2i1.symm⟩
  · exact ⟨D.i12.symm, D.l1i2.symm⟩
theorem turn_zipM {P : Program} {w : World} {K : PySem.W.Frag} {elts : List Expr} {kk : Nat} {tpos : Pos} {a b z TI TO i1 i2 : Addr} (D : ZipApart z TI TO i1 i2 a b) :
    Turn P w K (.Tuple elts kk tpos) (ItzM K a b) [z, TI, TO, i1, i2] z
      (fun i h => IsZip h z TI TO .none ∧ IsPair h TI (.ref i1) (.ref i2) ∧ (∃ x y, IsPair h TO x y) ∧ h.IsListIter i1 a i ∧ h.IsTupleIter i2 b i) where
  mem := by simp
  obj := by
    rintro i h ⟨hz, hTI, ⟨x, y, hTO⟩, ⟨o1, e1, _, d1⟩, ⟨o2, e2, _, d2⟩⟩ c hc
    simp only [List.mem_cons, List.not_mem_nil, or_false] at hc
    rcases hc with rfl | rfl | rfl | rfl | rfl
    · exact ⟨_, hz, fun v q => nomatch q⟩
    · exact ⟨_, hTI, fun v q => nomatch q⟩
    · exact ⟨_, hTO, fun v q => nomatch q⟩
    · exact ⟨o1, e1, fun v q => by rw [d1] at q; cases q⟩
    · exact ⟨o2, e2, fun v q => by rw [d2] at q; cases q⟩
  keep := by
    rintro i h h' ⟨hz, hTI, ⟨x, y, hTO⟩, h1, h2⟩ k
    exact ⟨k z (by simp) _ hz, k TI (by simp) _ hTI, ⟨x, y, k TO (by simp) _ hTO⟩, h1.at fun o q => k i1 (by simp) o q, h2.at fun o q => k i2 (by simp) o q⟩
  item := by
    intro X hP hw hK hc i pins s σ H E I hf st hg
    subst hP hw hK
    obtain ⟨hz, hTI, ⟨x0, y0, hTO⟩, h1, h2⟩ := st
    obtain ⟨xs, ys, x, y, hqx, hqy, hx, hy⟩ := hg
    obtain ⟨its, rv, p, _⟩ := I.list hqx
    obtain ⟨its2, rv2, p2, _⟩ := I.tuple hqy
    obtain ⟨u, hu, ru⟩ := rv.get hx
    obtain ⟨u2, hu2, ru2⟩ := rv2.get hy
    have hzl : z < s.heap.objs.size := Heap.lt_size hz
    have hl1 : i < its.toArray.size := by have := (List.getElem?_eq_some_iff.mp hu).1; simpa using this
    have hl2 : i < its2.toArray.size := by have := (List.getElem?_eq_some_iff.mp hu2).1; simpa using this
    refine wpAny_pyNext_zipD2_item (sepM D) (Draws.list (A := X.A.in1) (I.ok.hd hc) i1 a D.l1i1 its.toArray) (Draws.tuple (A := X.A.in1) (I.ok.hd hc) i2 b D.l2i2 its2.toArray) hz hTI hTO ⟨h1, p.isList⟩ ⟨h2, p2⟩ hl1 hl2 ?_
    intro v1 v2 h' tk hv1 hv2 z' TO' st1 st2 hT hsz hk
    have e1 : v1 = u := by
      have h3 : its.toArray[i]? = some u := by simpa using hu
      rw [show its.toArray[i]? = some v1 from hv1] at h3
      exact Option.some.inj h3
    have e2 : v2 = u2 := by
      have h3 : its2.toArray[i]? = some u2 := by simpa using hu2
      rw [show its2.toArray[i]? = some v2 from hv2] at h3
      exact Option.some.inj h3
    subst e1 e2
    refine ⟨_, rfl, wpAny_letOwnedTupleGo_zip (s := { s with heap := h', toks := tk }) z' fun h'' z'' sb => ?_⟩
    have hT2 : h''.get? s.heap.objs.size = some { cls := .type "tuple", data := .seq #[v1, v2] } := (sb.2 _ (Nat.ne_of_gt hzl)).trans hT
    have new : ObjOk X.prog X.w (upd H s.heap.objs.size (.tup [x, y])) h'' s.heap.objs.size (.tup [x, y]) :=
      ⟨by show 2 ≤ sizeLine; decide, [v1, v2], .cons ru (.cons ru2 .nil), ⟨_, hT2, rfl, _, rfl⟩⟩
    have kk : ∀ c o, c ∉ [z, TI, TO, i1, i2] → s.heap.get? c = some o → h''.get? c = some o := by
      intro c o hb q
      simp only [List.mem_cons, List.not_mem_nil, or_false, not_or] at hb
      exact (sb.2 c hb.1).trans (hk c o hb.1 hb.2.2.1 hb.2.2.2.1 hb.2.2.2.2 q)
    have I1 : Inv X pins σ (upd H s.heap.objs.size (.tup [x, y])) { s with heap := h'', toks := tk } :=
      I.turnedNew (t' := tk) (ch := [z, TI, TO, i1, i2]) kk hf (Nat.le_refl _) new
    refine ⟨.ref s.heap.objs.size, _, I1, rfl, ⟨_, x, y, rfl, I.hok.fresh (Nat.le_refl _), rfl, fun l hl => by rw [I.list_inj hl hqx]; exact hx, fun l hl => by rw [I.tuple_inj hl hqy]; exact hy⟩, ⟨z'', ?_, ⟨v1, v2, ?_⟩, ?_, ?_⟩, ?_⟩
    · exact (sb.2 _ D.TIz).trans (hk _ _ D.TIz D.TITO D.TIi1 D.TIi2 hTI)
    · exact (sb.2 _ D.TOz).trans TO'
    · exact st1.1.at fun o q => (sb.2 _ D.i1z).trans q
    · exact st2.1.at fun o q => (sb.2 _ D.i2z).trans q
    · intro c hcm
      have hlt : c < s.heap.objs.size := by
        simp only [List.mem_cons, List.not_mem_nil, or_false] at hcm
        rcases hcm with rfl | rfl | rfl | rfl | rfl
        · exact hzl
        · exact Heap.lt_size hTI
        · exact Heap.lt_size hTO
        · obtain ⟨_, e1, _⟩ := h1; exact Heap.lt_size e1
        · obtain ⟨_, e2, _⟩ := h2; exact Heap.lt_size e2
      rw [upd_ne (Nat.ne_of_lt hlt)]
      exact (hf c hcm).1
  done := by
    intro X hP hw hK hc i pins s σ H E I hf st hg
    subst hP hw hK
    obtain ⟨hz, hTI, ⟨x0, y0, hTO⟩, h1, h2⟩ := st
    obtain ⟨xs, ys, hqx, hqy, hend⟩ := hg
    obtain ⟨its, rv, p, _⟩ := I.list hqx
    obtain ⟨its2, rv2, p2, _⟩ := I.tuple hqy
    have l1 := rv.length
    have l2 := rv2.length
    refine wpAny_pyNext_zipD2_end (i := i) (sepM D) (Draws.list (A := X.A.in1) (I.ok.hd hc) i1 a D.l1i1 its.toArray) (Draws.tuple (A := X.A.in1) (I.ok.hd hc) i2 b D.l2i2 its2.toArray) hz hTI hTO ⟨h1, p.isList⟩ ⟨h2, p2⟩ (by simp; omega) (by simp; omega) (by simp; omega) ?_
    intro h' tk hk
    refine ⟨rfl, I.turnedL (t' := tk) (ch := [z, TI, TO, i1, i2]) ?_ hf⟩
    intro c o hb q
    simp only [List.mem_cons, List.not_mem_nil, or_false, not_or] at hb
    exact hk c o hb.1 hb.2.2.1 hb.2.2.2.1 hb.2.2.2.2 q
  self := fun A i s Q E st h => wpAny_pyIter_zip st.1 h
def iZipM (K : PySem.W.Frag) (ta : TA) : TI := fun σ H R => ta σ H fun vs H1 => ∃ a b xs ys, vs = [.ref a, .ref b] ∧ SqL K H1 a xs ∧ SqT K H1 b ys ∧ R (ItzM K a b) H1
theorem pi_zipM {X : Cx} {e e2 : Expr} {ta : TA} {p pos tpos : Pos} {elts : List Expr} {kk : Nat} (hg : Gl X "zip") (hm : X.mg "zip" = none) (ha : PA X [e, e2] ta)
    (hs : starEach [e, e2] X.env = (false, eval e X.env) :: starEach [e2] X.env := by rfl) (hpl : (backTo pos (starEach [e2] X.env)).any (·.1) = false := by rfl) :
    PI X (.Tuple elts kk tpos) (.Call (.Name "zip" p) [e, e2] [] pos) (iZipM X.K ta) := by
  constructor
  intro pins s σ H R I h
  refine Call_ (ld_blt I hg hm PyProof.Rows.boot_zip (PyProof.Rows.callWith_type1 (thn (ha.run pos pins s σ H _ I h) ?_) hs hpl))
  rintro us s1 ⟨vs, H1, I1, r1, a, b, xs, ys, rfl, hqx, hqy, q⟩
  obtain ⟨u, v, rfl, rfl, rfl⟩ := vals2 r1
  obtain ⟨its, rv, p1, _⟩ := I1.list hqx
  obtain ⟨its2, rv2, p2, _⟩ := I1.tuple hqy
  refine call_zipM p1.isList (show s1.heap.IsTuple b its2.toArray from p2) fun h' hz hTI hTO h1 h2 hk => wpAny_pyIter_zip hz ?_
  have I2 : Inv X pins σ H1 { s1 with heap := h' } := I1.kept (t' := s1.toks) hk
  refine ⟨s1.heap.objs.size + 4, [s1.heap.objs.size + 4, s1.heap.objs.size + 2, s1.heap.objs.size + 3, s1.heap.objs.size, s1.heap.objs.size + 1], _, _, H1, rfl, I2,
    turn_zipM (PySem.W.ktu_apart s1.heap.objs.size a b p1.lt (tupLt p2)), ⟨hz, hTI, ⟨_, _, hTO⟩, h1, h2⟩, ?_, q⟩
  intro c hcm
  have hle : s1.heap.objs.size ≤ c := by
    simp only [List.mem_cons, List.not_mem_nil, or_false] at hcm
    rcases hcm with rfl | rfl | rfl | rfl | rfl <;> omega
  exact I1.fpOk hle (I1.hok.fresh hle)
theorem walk_zipM {K : PySem.W.Frag} {a b : Addr} {xs ys : List V} {n : Nat} (hn : n = min xs.length ys.length) :
    Walk (ItzM K a b) n (fun H => SqL K H a xs ∧ SqT K H b ys) (YPair (fun i => xs[i]?) (fun i => ys[i]?)) := by
  subst hn
  constructor
  · rintro i H hi ⟨q1, q2⟩
    have h1 : i < xs.length := by omega
    have h2 : i < ys.length := by omega
    exact ⟨xs, ys, xs[i], ys[i], q1, q2, by simp [h1], by simp [h2]⟩
  · rintro H ⟨q1, q2⟩
    exact ⟨xs, ys, q1, q2, rfl⟩
  · rintro i H v H' _ ⟨q1, q2⟩ ⟨T, x, z, h1, h2, h3, h4, h5⟩
    exact ⟨T, x, z, h1, h2, h3, h4 xs q1, h5 ys q2⟩
end Pv

namespace Pv
open PySem PySem.Spec PyProof.Rows L2
theorem samePut {H H1 : Hp} {D : Addr} {o : HO} (s : Same H H1) (nD : H D = none) : Same H (upd H1 D o) := fun b z e => by rw [upd_ne (ne_of_none e nD)]; exact s b z e
theorem ty_sq {K : PySem.W.Frag} {H : Hp} {a : Addr} {xs : List V} (h : SqT K H a xs) : TyX K H (.ref a) (.type "tuple") := by
  rcases h with (h | ⟨o, h⟩) | ⟨o, its, n, h, hc, _⟩
  · exact .base (.tup h)
  · exact .fTuple h
  · exact .kTuple h hc
theorem small {n : Nat} (h : n ≤ 1000000) : n < sizeLine := Nat.lt_of_le_of_lt h (by decide)
def addAt (ls : List Int) (p x : Int) : List Int := ls.set p.toNat (ls.getD p.toNat 0 + x)
theorem addAt_len (ls : List Int) (p x : Int) : (addAt ls p x).length = ls.length := by simp [addAt]
theorem freeOf {H : Hp} {p b : Addr} {o : HO} (h : upd H p o b = none) : H b = none := by
  by_cases e : b = p
  · subst e; rw [upd_same] at h; cases h
  · rw [upd_ne e] at h; exact h
theorem ixN_nat {n j : Nat} (h : j < n) : ixN n (j : Int) = some j := by
  unfold ixN
  rw [if_pos (by omega), if_pos (by omega)]
  simp
theorem zip_take {α β : Type} : ∀ (n : Nat) (a : List α) (b : List β), (a.take n).zip (b.take n) = (a.zip b).take n
  | 0, _, _ => by simp
  | _ + 1, [], _ => by simp
  | _ + 1, _ :: _, [] => by simp
  | n + 1, x :: a, y :: b => by simp [zip_take n a b]
def zeros (n : Nat) : List Int := List.replicate n 0
theorem zeros_V (n : Nat) : (List.replicate n [V.int 0]).flatten = (zeros n).map V.int := by
  unfold zeros
  induction n with
  | zero => rfl
  | succ n ih => rw [List.replicate_succ, List.flatten_cons, ih]; rfl
theorem zip_snoc {α β : Type} {a : List α} {b : List β} {i : Nat} {x : α} {y : β} (hx : a[i]? = some x) (hy : b[i]? = some y) : (a.take (i + 1)).zip (b.take (i + 1)) = (a.take i).zip (b.take i) ++ [(x, y)] := by
  rw [zip_take, zip_take, List.take_add_one]
  have : (a.zip b)[i]? = some (x, y) := by
    rw [List.getElem?_zip_eq_some]; exact ⟨hx, hy⟩
  rw [this]; rfl
theorem take_snoc {α : Type} {l : List α} {i : Nat} {x : α} (h : l[i]? = some x) : l.take (i + 1) = l.take i ++ [x] := by rw [List.take_add_one, h]; rfl
theorem cut_to (xs : List V) (n : Nat) : cutV xs none (some (n : Int)) = xs.take n := by
  unfold cutV
  rw [HT.sIx_none, HT.sIx_nat, List.drop_zero, Nat.sub_zero]
  by_cases h : n ≤ xs.length
  · rw [Nat.min_eq_left h]
  · rw [Nat.min_eq_right (by omega), List.take_length, List.take_of_length_le (by omega)]
def absI (i : Int) : Int := if i < 0 then -i else i
theorem absI_nn (i : Int) : 0 ≤ absI i := by unfold absI; split <;> omega
def restI (c : Int) : Int := c * (if decide ((10 : Int) ^ (18 : Int).toNat ≤ c) = true then 1 else 0)
theorem restI_nn {c : Int} (h : 0 ≤ c) : 0 ≤ restI c := by unfold restI; split <;> omega
structure InsOk (cs : List Int) (gs : List Gp) : Prop where
  c1 : 1 ≤ cs.length
  c6 : cs.length ≤ 6
  cb : ∀ c ∈ cs, 1 ≤ c ∧ c ≤ 10 ^ 12
  g1 : 1 ≤ gs.length
  g10 : gs.length ≤ 10
  gp : ∀ g ∈ gs, g.1.length ≤ 6 ∧ (∀ p ∈ g.1, 0 ≤ p ∧ p < (cs.length : Int)) ∧ 1 ≤ g.2 ∧ g.2 ≤ 10 ^ 12
theorem ExtPut {st r p : Addr} {H H1 : Hp} {o : HO} (x : Ext st r H H1) (np : H p = none) : Ext st r H (upd H1 p o) := fun b z e n1 n2 => by rw [upd_ne (ne_of_none e np)]; exact x b z e n1 n2
theorem Ext.nil {st c r p : Addr} {t : Nat} {H H1 : Hp} (x : Ext st r H H1) (d : DS H1 st c r t) (np : H1 p = none) : H p = none := by
  have o := d.off np
  cases e : H p with
  | none => rfl
  | some z => rw [x _ _ e o.1 o.2.2] at np; cases np
def upTo (n : Nat) : List Int := (List.range n).map fun (i : Nat) => (i : Int)
theorem rgV_upTo (n : Nat) : rgV 0 (n : Int) = (upTo n).map V.int := by
  unfold rgV upTo
  rw [List.map_map]
  simp
theorem upTo_len (n : Nat) : (upTo n).length = n := by simp [upTo]
theorem upTo_mem {n : Nat} {x : Int} (h : x ∈ upTo n) : 0 ≤ x ∧ x < n := by
  unfold upTo at h
  obtain ⟨i, hi, rfl⟩ := List.mem_map.mp h
  have := List.mem_range.mp hi
  omega
theorem erase_map {α β : Type} (f : α → β) : ∀ (l : List α) (k : Nat), (l.map f).eraseIdx k = (l.eraseIdx k).map f
  | [], _ => rfl
  | _ :: _, 0 => rfl
  | x :: l, k + 1 => by simp [erase_map f l k]
theorem fine_grp {cs : List Int} {gs : List Gp} (ok : InsOk cs gs) {g : Gp} (hg : g ∈ gs) : Fine 2 500 (dGrp g) := by
  obtain ⟨h1, h2, h3, h4⟩ := ok.gp g hg
  refine (fine_tup (k := 1) (B := 200) (n := 2) (xs := [dI g.1, .int g.2]) ?_ (by simp)).mono (by omega) (by omega)
  intro x hx
  simp at hx
  rcases hx with rfl | rfl
  · exact (fine_dI (n := 6) (fun p hp => by have := h2 p hp; have := ok.c6; omega) h1).mono (by omega) (by omega)
  · exact (fine_int (by omega)).mono (by omega) (by omega)
theorem fine_inst {cs : List Int} {gs : List Gp} (ok : InsOk cs gs) : Fine 4 20000 (dInst cs gs) := by
  refine (fine_tup (k := 3) (B := 8000) (n := 2) (xs := [dI cs, .tuple (gs.map dGrp)]) ?_ (by simp)).mono (by omega) (by omega)
  intro x hx
  simp at hx
  rcases hx with rfl | rfl
  · exact (fine_dI (n := 6) (fun p hp => by have := ok.cb p hp; omega) ok.c6).mono (by omega) (by omega)
  · refine (fine_tup (k := 2) (B := 500) (n := 10) ?_ (by rw [List.length_map]; exact ok.g10)).mono (by omega) (by omega)
    intro d hd
    obtain ⟨g, hg, rfl⟩ := List.mem_map.mp hd
    exact fine_grp ok hg
theorem hu70 {k : Nat} {A : Around} (hr : Room k A) : A.units + 70 < cLine := by have := hr.un; omega
theorem ty_sqL {K : PySem.W.Frag} {H : Hp} {a : Addr} {xs : List V} (h : SqL K H a xs) : TyX K H (.ref a) (.type "list") := by
  rcases h with (h | ⟨o, h⟩) | ⟨o, its, n, h, hc, _⟩
  · exact .base (.lst h)
  · exact .base (.frz h)
  · exact .kList h hc
theorem FnOk.none {P : Program} {w : World} {K : PySem.W.Frag} {mg : Str → Option Value} {base : Heap} {k : Nat} {f : Addr} {fd : FuncData} {ps : List Str} : FnOk P w K mg base CX0 k f fd ps (fun _ _ _ _ => False) :=
  ⟨fun _ _ _ _ h => h.elim, fun _ _ _ _ _ _ _ _ _ _ _ _ _ h => h.elim⟩
end Pv

namespace Pv
open PySem PySem.Spec PyProof.Rows L2

/-! data of any kind: lists stand off the drawing state, dicts have leaves alone -/
def kD : Key → PyData
  | .inl i => .int i
  | .inr x => .str x
mutual
inductive Dq (K : PySem.W.Frag) (st r : Addr) (H : Hp) : V → PyData → Prop
  | non : Dq K st r H .non .none
  | bl (b : Bool) : Dq K st r H (.bl b) (.bool b)
  | int (i : Int) : Dq K st r H (.int i) (.int i)
  | str (x : Str) : Dq K st r H (.str x) (.str x)
  | lst {a : Addr} {xs : List V} {ds : List PyData} : H a = some (.lst xs) → a ≠ st → a ≠ r → a ≠ sysModules → DqAll K st r H xs ds → Dq K st r H (.ref a) (.list ds)
  | tup {a : Addr} {xs : List V} {ds : List PyData} : SqT K H a xs → DqAll K st r H xs ds → Dq K st r H (.ref a) (.tuple ds)
  | dct {a : Addr} {kvs : List (Key × Int)} : H a = some (.dK (kvs.map fun p => (p.1, V.int p.2))) → Dq K st r H (.ref a) (.dict (kvs.map fun p => (kD p.1, .int p.2)))
inductive DqAll (K : PySem.W.Frag) (st r : Addr) (H : Hp) : List V → List PyData → Prop
  | nil : DqAll K st r H [] []
  | cons {v : V} {vs : List V} {d : PyData} {ds : List PyData} : Dq K st r H v d → DqAll K st r H vs ds → DqAll K st r H (v :: vs) (d :: ds)
end
theorem keys_reads {P : Program} {w : World} {h : Heap} : ∀ {kvs : List (Key × Int)} {vs : List (Key × Value)} {es : List DictEntry}, KV (kvs.map fun p => (p.1, V.int p.2)) vs → Pairs (mixKind P w) es vs →
    ReadsAll h (es.map (·.key)) ((kvs.map fun p => (kD p.1, PyData.int p.2)).map (·.1)) [] ∧ ReadsAll h (es.map (·.val)) ((kvs.map fun p => (kD p.1, PyData.int p.2)).map (·.2)) []
  | [], _, _, rk, rp => by
    cases rk
    cases rp
    exact ⟨.nil, .nil⟩
  | p :: kvs, _, _, rk, rp => by
    obtain ⟨pk, pi⟩ := p
    rw [List.map_cons] at rk
    cases rk with
    | @cons _ q _ qs hq tq =>
      obtain ⟨qk, qv⟩ := q
      obtain ⟨h1, h2⟩ := hq
      simp only at h1 h2
      subst h1
      cases rp with
      | @cons e _ es _ he hv tp =>
        obtain ⟨r1, r2⟩ := keys_reads (h := h) tq tp
        simp only at he hv
        obtain ⟨t, ht⟩ := h2
        subst ht
        refine ⟨?_, ?_⟩
        · have k1 : Reads h e.key (kD pk) [] := by
            rcases keyIs_shape (show keyIs pk e.key = true from he) with ⟨i, t, e1, e2⟩ | ⟨x, t, e1, e2⟩
            · rw [e1, e2]; exact .int i t
            · rw [e1, e2]; exact .str x t
          exact ReadsAll.cons k1 r1
        · have k2 : Reads h e.val (.int pi) [] := by rw [hv]; exact .int pi t
          exact ReadsAll.cons k2 r2
section
variable {X : Cx} {pins : List (Addr × Obj)} {σ : L2.St} {H : Hp} {s : Shared} {st r : Addr}
mutual
theorem Dq.reads (I : Inv X pins σ H s) : ∀ (d : PyData) (v : V) (u : Value), Dq X.K st r H v d → RelV v u → ∃ as, Reads s.heap u d as ∧ sysModules ∉ as
  | .none, _, _, h, q => by
    cases h; cases q; exact ⟨[], .none, by simp⟩
  | .bool b, _, _, h, q => by
    cases h; cases q; exact ⟨[], .bool b, by simp⟩
  | .int i, _, _, h, q => by
    cases h; obtain ⟨t, e⟩ := q; subst e; exact ⟨[], .int i t, by simp⟩
  | .str x, _, _, h, q => by
    cases h; obtain ⟨t, e⟩ := q; subst e; exact ⟨[], .str x t, by simp⟩
  | .list ds, _, _, h, q => by
    cases h with
    | lst e _ _ n hd =>
      cases q
      obtain ⟨its, rel, ⟨o, m, ho, hc, _, hm⟩, _⟩ := I.list (SqL.of e)
      obtain ⟨as, h1, h2⟩ := DqAll.reads I ds _ its hd rel
      exact ⟨_, .list ho hc hm h1, by simp only [List.mem_cons, not_or]; exact ⟨fun z => n z.symm, h2⟩⟩
  | .tuple ds, _, _, h, q => by
    cases h with
    | tup e hd =>
      cases q
      obtain ⟨its, rel, ⟨o, ho, hc, m, hm⟩, _⟩ := I.tuple e
      obtain ⟨as, h1, h2⟩ := DqAll.reads I ds _ its hd rel
      exact ⟨_, .tuple ho hc hm h1, h2⟩
  | .dict _, _, _, h, q => by
    cases h with
    | dct e =>
      cases q
      obtain ⟨_, nb, vs, rk, o, es, ep, ho, hx, hm, _, rp, _⟩ := dk_of I.hok e
      obtain ⟨h1, h2⟩ := keys_reads (h := s.heap) rk rp
      exact ⟨_, .dict ho hx.1 hm h1 h2, by simp only [List.nil_append, List.append_nil, List.mem_singleton, List.mem_cons, List.not_mem_nil, or_false]; exact fun z => absurd z.symm (by simpa using nb)⟩
theorem DqAll.reads (I : Inv X pins σ H s) : ∀ (ds : List PyData) (vs : List V) (us : List Value), DqAll X.K st r H vs ds → Vals vs us → ∃ as, ReadsAll s.heap us ds as ∧ sysModules ∉ as
  | [], _, _, h, q => by
    cases h; cases q; exact ⟨[], .nil, by simp⟩
  | d :: ds, _, _, h, q => by
    cases h with
    | cons h1 h2 =>
      cases q with
      | cons q1 q2 =>
        obtain ⟨as, e1, n1⟩ := Dq.reads I d _ _ h1 q1
        obtain ⟨bs, e2, n2⟩ := DqAll.reads I ds _ _ h2 q2
        exact ⟨_, .cons e1 e2, by simp only [List.mem_append, not_or]; exact ⟨n1, n2⟩⟩
end
end
/-- repr of such data -/
theorem call_reprQ {X : Cx} (hg : X.A.guards = some []) (hu : X.A.units + 70 < cLine) : CallR X (.builtin "repr")
    (fun xs H Q => ∃ a d st r, xs = [.ref a] ∧ Dq X.K st r H (.ref a) d ∧ d.showable = true ∧ d.depth ≤ 60 ∧ d.shown.length ≤ sizeLine ∧ Q (.str d.shown) H) := by
  intro pins s σ H xs us Q I rv h
  obtain ⟨a, d, st, r, rfl, hd, h1, h3, h4, q⟩ := h
  obtain ⟨u, rfl, rfl⟩ := vals1 rv
  obtain ⟨as, rd, nm⟩ := Dq.reads I d _ _ hd rfl
  exact repr_of_reads' rd h1 (fun _ => nm) hg (by omega) (fun _ _ e => e) (fun h' u tk hk => ⟨.str _, H, I.kept hk, ⟨_, rfl⟩, q⟩) h4

/-! how it lasts -/
section
variable {K : PySem.W.Frag} {st r c : Addr} {H H' : Hp}
structure Lasts (st r : Addr) (H H' : Hp) : Prop where
  tk : TupK H H'
  ls : ∀ a xs, H a = some (.lst xs) → a ≠ st → a ≠ r → H' a = some (.lst xs)
  dk : ∀ a kvs, H a = some (.dK kvs) → H' a = some (.dK kvs)
theorem Lasts.refl : Lasts st r H H := ⟨.refl _, fun _ _ e _ _ => e, fun _ _ e => e⟩
theorem Lasts.of (s : Same H H') : Lasts st r H H' := ⟨.of s, fun a xs e _ _ => s _ _ e, fun a kvs e => s _ _ e⟩
theorem Lasts.ext {t : Nat} (d : DS H st c r t) (x : Ext st r H H') : Lasts st r H H' := by
  refine ⟨x.tup d, fun a xs e n1 n2 => x _ _ e n1 n2, fun a kvs e => ?_⟩
  obtain ⟨cells, rests, hc, hr, _⟩ := d.ex
  exact x _ _ e (ne_of e d.hs (by intro z; cases z)) (ne_of e hr (by intro z; cases z))
theorem Lasts.trans {H2 : Hp} (a : Lasts st r H H') (b : Lasts st r H' H2) : Lasts st r H H2 :=
  ⟨a.tk.trans b.tk, fun p xs e n1 n2 => b.ls _ _ (a.ls _ _ e n1 n2) n1 n2, fun p kvs e => b.dk _ _ (a.dk _ _ e)⟩
theorem Lasts.new {p : Addr} {o : HO} (np : H p = none) : Lasts st r H (upd H p o) := .of (sameNew np)
mutual
theorem Dq.lasts (l : Lasts st r H H') : ∀ {d : PyData} {v : V}, Dq K st r H v d → Dq K st r H' v d
  | .none, _, h => by cases h; exact .non
  | .bool _, _, h => by cases h; exact .bl _
  | .int _, _, h => by cases h; exact .int _
  | .str _, _, h => by cases h; exact .str _
  | .list _, _, h => by
    cases h with
    | lst e n1 n2 n3 hd => exact .lst (l.ls _ _ e n1 n2) n1 n2 n3 (DqAll.lasts l hd)
  | .tuple _, _, h => by
    cases h with
    | tup e hd => exact .tup (l.tk.sq e) (DqAll.lasts l hd)
  | .dict _, _, h => by
    cases h with
    | dct e => exact .dct (l.dk _ _ e)
theorem DqAll.lasts (l : Lasts st r H H') : ∀ {ds : List PyData} {vs : List V}, DqAll K st r H vs ds → DqAll K st r H' vs ds
  | [], _, h => by cases h; exact .nil
  | _ :: _, _, h => by
    cases h with
    | cons h1 h2 => exact .cons (Dq.lasts l h1) (DqAll.lasts l h2)
end
mutual
theorem Dq.of_dp : ∀ {d : PyData} {v : V}, tupOnly d = true → Dp K H v d → Dq K st r H v d
  | .none, _, _, h => by cases h; exact .non
  | .bool _, _, _, h => by cases h; exact .bl _
  | .int _, _, _, h => by cases h; exact .int _
  | .str _, _, _, h => by cases h; exact .str _
  | .list _, _, t, _ => by simp [tupOnly] at t
  | .tuple _, _, t, h => by
    cases h with
    | tup e hd => exact .tup e (DqAll.of_dp (by simpa [tupOnly] using t) hd)
  | .dict _, _, t, _ => by simp [tupOnly] at t
theorem DqAll.of_dp : ∀ {ds : List PyData} {vs : List V}, tupOnlyAll ds = true → DpAll K H vs ds → DqAll K st r H vs ds
  | [], _, _, h => by cases h; exact .nil
  | d :: ds, _, t, h => by
    have t' : tupOnly d = true ∧ tupOnlyAll ds = true := by simpa [tupOnlyAll] using t
    cases h with
    | cons h1 h2 => exact .cons (Dq.of_dp t'.1 h1) (DqAll.of_dp t'.2 h2)
theorem Dq.to_dp : ∀ {d : PyData} {v : V}, tupOnly d = true → Dq K st r H v d → Dp K H v d
  | .none, _, _, h => by cases h; exact .non
  | .bool _, _, _, h => by cases h; exact .bl _
  | .int _, _, _, h => by cases h; exact .int _
  | .str _, _, _, h => by cases h; exact .str _
  | .list _, _, t, _ => by simp [tupOnly] at t
  | .tuple _, _, t, h => by
    cases h with
    | tup e hd => exact .tup e (DqAll.to_dp (by simpa [tupOnly] using t) hd)
  | .dict _, _, t, _ => by simp [tupOnly] at t
theorem DqAll.to_dp : ∀ {ds : List PyData} {vs : List V}, tupOnlyAll ds = true → DqAll K st r H vs ds → DpAll K H vs ds
  | [], _, _, h => by cases h; exact .nil
  | d :: ds, _, t, h => by
    have t' : tupOnly d = true ∧ tupOnlyAll ds = true := by simpa [tupOnlyAll] using t
    cases h with
    | cons h1 h2 => exact .cons (Dq.to_dp t'.1 h1) (DqAll.to_dp t'.2 h2)
end
theorem DqAll.len : ∀ {vs : List V} {ds : List PyData}, DqAll K st r H vs ds → vs.length = ds.length
  | _, _, .nil => rfl
  | _, _, .cons _ t => by simp [DqAll.len t]
theorem DqAll.at : ∀ {vs : List V} {ds : List PyData} {i : Nat} {v : V}, DqAll K st r H vs ds → vs[i]? = some v → ∃ d, ds[i]? = some d ∧ Dq K st r H v d
  | _, _, _, _, .nil, e => by simp at e
  | _, _, 0, _, .cons h _, e => by simp at e; subst e; exact ⟨_, rfl, h⟩
  | _, _, i + 1, v, .cons _ t, e => by
    obtain ⟨d, h1, h2⟩ := DqAll.at (i := i) t (by simpa using e)
    exact ⟨d, by simpa using h1, h2⟩
theorem DqAll.app : ∀ {vs ws : List V} {ds es : List PyData}, DqAll K st r H vs ds → DqAll K st r H ws es → DqAll K st r H (vs ++ ws) (ds ++ es)
  | _, _, _, _, .nil, h => h
  | _, _, _, _, .cons h t, h' => .cons h (DqAll.app t h')
theorem DqAll.snoc {vs : List V} {ds : List PyData} {v : V} {d : PyData} (h : DqAll K st r H vs ds) (h' : Dq K st r H v d) : DqAll K st r H (vs ++ [v]) (ds ++ [d]) := h.app (.cons h' .nil)
theorem DqAll.rev : ∀ {vs : List V} {ds : List PyData}, DqAll K st r H vs ds → DqAll K st r H vs.reverse ds.reverse
  | _, _, .nil => .nil
  | _, _, .cons h t => by rw [List.reverse_cons, List.reverse_cons]; exact (DqAll.rev t).snoc h
theorem DqAll.take : ∀ {vs : List V} {ds : List PyData} (n : Nat), DqAll K st r H vs ds → DqAll K st r H (vs.take n) (ds.take n)
  | _, _, 0, _ => .nil
  | _, _, _ + 1, .nil => .nil
  | _, _, n + 1, .cons h t => .cons h (DqAll.take n t)
theorem DqAll.drop : ∀ {vs : List V} {ds : List PyData} (n : Nat), DqAll K st r H vs ds → DqAll K st r H (vs.drop n) (ds.drop n)
  | _, _, 0, h => h
  | _, _, _ + 1, .nil => .nil
  | _, _, n + 1, .cons _ t => DqAll.drop n t
/-- its type -/
def tyN : PyData → String
  | .none => "NoneType"
  | .bool _ => "bool"
  | .int _ => "int"
  | .str _ => "str"
  | .list _ => "list"
  | .tuple _ => "tuple"
  | .dict _ => "dict"
theorem Dq.ty {d : PyData} {v : V} (h : Dq K st r H v d) : TyX K H v (.type (tyN d)) := by
  cases h with
  | non => exact .base .non
  | bl b => exact .base (.bl b)
  | int i => exact .base (.int i)
  | str x => exact .base (.str x)
  | lst e => exact .base (.lst e)
  | tup e _ =>
    rcases e with (e | ⟨o, e⟩) | ⟨o, its, n, e, hc, _⟩
    · exact .base (.tup e)
    · exact .fTuple e
    · exact .kTuple e hc
  | dct e => exact .base (.dK e)
def isTup : PyData → Bool
  | .tuple _ => true
  | _ => false
def isInt : PyData → Bool
  | .int _ => true
  | .bool _ => true
  | _ => false
def isBool : PyData → Bool
  | .bool _ => true
  | _ => false
theorem kit_tup (d : PyData) : PySem.W.kitOne K (.type (tyN d)) (.type "tuple") = some (isTup d) := by
  have key : ∀ a b : String, ∀ x : Bool, kitB a b = some x → PySem.W.kitOne K (.type a) (.type b) = some x := fun _ _ _ h => kit_ty h
  cases d
  · exact key "NoneType" "tuple" false (by decide +kernel)
  · exact key "bool" "tuple" false (by decide +kernel)
  · exact key "int" "tuple" false (by decide +kernel)
  · exact key "str" "tuple" false (by decide +kernel)
  · exact key "list" "tuple" false (by decide +kernel)
  · exact key "tuple" "tuple" true (by decide +kernel)
  · exact key "dict" "tuple" false (by decide +kernel)
theorem kit_int (d : PyData) : PySem.W.kitOne K (.type (tyN d)) (.type "int") = some (isInt d) := by
  have key : ∀ a b : String, ∀ x : Bool, kitB a b = some x → PySem.W.kitOne K (.type a) (.type b) = some x := fun _ _ _ h => kit_ty h
  cases d
  · exact key "NoneType" "int" false (by decide +kernel)
  · exact key "bool" "int" true (by decide +kernel)
  · exact key "int" "int" true (by decide +kernel)
  · exact key "str" "int" false (by decide +kernel)
  · exact key "list" "int" false (by decide +kernel)
  · exact key "tuple" "int" false (by decide +kernel)
  · exact key "dict" "int" false (by decide +kernel)
theorem kit_bool (d : PyData) : PySem.W.kitOne K (.type (tyN d)) (.type "bool") = some (isBool d) := by
  have key : ∀ a b : String, ∀ x : Bool, kitB a b = some x → PySem.W.kitOne K (.type a) (.type b) = some x := fun _ _ _ h => kit_ty h
  cases d
  · exact key "NoneType" "bool" false (by decide +kernel)
  · exact key "bool" "bool" true (by decide +kernel)
  · exact key "int" "bool" false (by decide +kernel)
  · exact key "str" "bool" false (by decide +kernel)
  · exact key "list" "bool" false (by decide +kernel)
  · exact key "tuple" "bool" false (by decide +kernel)
  · exact key "dict" "bool" false (by decide +kernel)
end
/-! a new list, whose address is none of the machine's own -/
def tLstS (t : TA) : TE := fun σ H Q => t σ H fun xs H1 => xs.length ≤ sizeLine ∧ ∀ p, H1 p = none → p ≠ sysModules → Q (.ref p) (upd H1 p (.lst xs))
section
variable {X : Cx} {es : List Expr} {pos : Pos} {t : TA}
theorem pe_lstS (h : PA X es t) : PE X (.List es pos) (tLstS t) := by
  constructor
  intro pins s σ H Q I hq
  refine wpAny_List_spliced (thn (h.run pos pins s σ H _ I hq) ?_)
  rintro us s1 ⟨xs, H1, I1, rel, z, q⟩
  refine ⟨by rw [← rel.length]; exact z, .ref s1.heap.objs.size, _, ?_, rfl, q _ (I1.hok.fresh (Nat.le_refl _)) (Nat.ne_of_gt I1.big)⟩
  exact I1.laid (t' := s1.toks) (fun b u e => Heap.get?_push_of_some _ e) (Nat.le_refl _) ⟨z, us, 0, rel, Heap.get?_push_size _ rfl⟩
def rListS (K : PySem.W.Frag) : RC := fun xs H Q => ∃ (p : Addr) (ys : List V), xs = [.ref p] ∧ SqT K H p ys ∧ ∀ l, H l = none → l ≠ sysModules → Q (.ref l) (upd H l (.lst ys))
theorem call_listS : CallR X (.type "list") (rListS X.K) := by
  intro pins s σ H xs us Q I rel h
  obtain ⟨p, ys, e, hq, q⟩ := h
  subst e
  obtain ⟨u, e, rx⟩ := vals1 rel
  subst e
  cases rx
  obtain ⟨its, r', ⟨o, ho, hc, n, hd⟩, hz⟩ := I.tuple hq
  have hlen := r'.length
  refine call_list_seq p (.inr rfl) ho hc hd (fun h' c' kp e => ?_) (by simp only [List.size_toArray]; omega)
  exact ⟨.ref s.heap.objs.size, _, I.laid (t' := s.toks) (o := .lst ys) kp (Nat.le_refl _) ⟨hz, its, c', r', e⟩, rfl, q _ (I.hok.fresh (Nat.le_refl _)) (Nat.ne_of_gt I.big)⟩
end
end Pv

/-! t[::-1] of a tuple -/
namespace HT
open PySem PyProof.Rows
section
variable {prog : Program} {w : World} {A : Around} {E : Value → Shared → Prop} {s : Shared}
theorem pv_pickBack (xs : Array Value) : ((List.range xs.size).filterMap fun (k : Nat) => xs[(((xs.size : Int) - 1) + (k : Int) * (-1)).toNat]?) = xs.toList.reverse := by
  apply List.ext_getElem?
  intro i
  have e : ∀ n, n ≤ xs.size → ((List.range n).filterMap fun (k : Nat) => xs[(((xs.size : Int) - 1) + (k : Int) * (-1)).toNat]?) = xs.toList.reverse.take n := by
    intro n
    induction n with
    | zero => intro _; rfl
    | succ n ih =>
      intro hn
      rw [List.range_succ, List.filterMap_append, ih (by omega), List.take_add_one]
      congr 1
      have h1 : (((xs.size : Int) - 1) + (n : Int) * (-1)).toNat = xs.size - 1 - n := by omega
      rw [List.filterMap_cons, List.filterMap_nil, h1, List.getElem?_reverse (by rw [Array.length_toList]; omega), Array.length_toList, Array.getElem?_toList]
      cases xs[xs.size - 1 - n]? <;> rfl
  rw [e xs.size (Nat.le_refl _), List.take_of_length_le (by simp)]
theorem pv_appliedBack {sl : Addr} {n : Nat} {t : Tok} {Q : Int × Int × Nat → Shared → Prop} (hs : s.heap.IsSliceOf sl .none .none (.int (-1) t)) (h : Q ((n : Int) - 1, -1, n) s) :
    wpAny (model prog w) A (Builtin.Slice.sliceApplied (.ref sl) (pure (n : Int))) Q E s := by
  obtain ⟨os, hos, hcs, hds⟩ := id hs
  unfold Builtin.Slice.sliceApplied Builtin.Slice.sliceFields
  refine wpAny_bind (wpAny_bind (wpAny_field hos hds (x := .none) rfl (wpAny_bind (wpAny_field hos hds (x := .none) rfl (wpAny_bind (wpAny_field hos hds (x := .int (-1) t) rfl (wpAny_pure ?_)))))))
  refine wpAny_bind (slicePart_ (IsPart.int (-1) t) ?_)
  show wpAny _ _ (if ((-1 : Int) == 0) = true then _ else _) _ _ s
  rw [if_neg (by decide)]
  refine wpAny_bind (slicePart_ IsPart.none (wpAny_bind (slicePart_ IsPart.none (wpAny_bind (wpAny_pure ?_)))))
  show wpAny _ _ (match Builtin.Slice.sliceAdjust none none (-1) (n : Int) with | (a, b) => pure (a, (-1 : Int), Builtin.Slice.slicePlaces a b (-1))) _ _ s
  have e1 : Builtin.Slice.sliceAdjust none none (-1) (n : Int) = ((n : Int) - 1, -1) := rfl
  rw [e1]
  show wpAny _ _ (pure ((n : Int) - 1, (-1 : Int), Builtin.Slice.slicePlaces ((n : Int) - 1) (-1) (-1))) _ _ s
  have e2 : Builtin.Slice.slicePlaces ((n : Int) - 1) (-1) (-1) = n := by
    unfold Builtin.Slice.slicePlaces
    have h1 : ¬ ((-1 : Int) > 0) := by omega
    simp only [h1, if_false]
    by_cases h2 : (n : Int) - 1 > -1
    · rw [if_pos h2]
      have h3 : -(-1 : Int) = 1 := rfl
      rw [h3, Int.ediv_one]
      omega
    · rw [if_neg h2]; omega
  rw [e2]
  exact wpAny_pure h
theorem pv_getItemBack {p sl : Addr} {items : Array Value} {t : Tok} {Q : Value → Shared → Prop} (ht : IsTup s.heap p items) (hs : s.heap.IsSliceOf sl .none .none (.int (-1) t))
    (h : Q (.ref s.heap.objs.size) { s with heap := s.heap.push { cls := .type "tuple", data := .seq items.toList.reverse.toArray } }) (hsz : items.size ≤ sizeLine) : wpAny (model prog w) A (getItem (.ref p) (.ref sl)) Q E s := by
  have hfit : sizeOk (.seq items.toList.reverse.toArray) := by
    show items.toList.reverse.toArray.size ≤ sizeLine
    rw [List.size_toArray, List.length_reverse]; simpa using hsz
  obtain ⟨os, hos, hcs, hds⟩ := id hs
  have hT : s.TypeIs (.ref sl) "slice" := ⟨os, hos, hcs⟩
  unfold getItem; try with_reducible refine wpAny_holding ?_
  first | refine wpAny_bind (wpAny_pure ?_) | skip
  refine wpAny_bind (wpAny_sequenceKey ht.typeIs (by decide) (wpAny_bind (wpAny_callSpecial?_slot (name := Str.ofString "__getitem__") ht.typeIs PyProof.Rows.slot_tuple_getitem
    (wpAny_call_entry PyProof.Rows.slot_tuple_getitem ht.typeIs entry_tuple_getitem ?_ (args_tuple_getitem _ _)))))
  show wpAny _ _ (Builtin.Tuple.tupleItemsOf (.ref p) >>= _) _ _ s
  refine wpAny_bind (tupleItemsOf_ ht (wpAny_bind (wpAny_typeOf hT ?_)))
  rw [if_pos (by decide)]
  refine wpAny_bind (pv_appliedBack hs ?_)
  show wpAny _ _ (if (((items.size : Int) - 1) == 0 && (-1 : Int) == 1 && items.size == items.size) = true then _ else _) _ _ s
  rw [if_neg (by simp)]
  show wpAny _ _ (Builtin.Tuple.tupleExact ((List.range items.size).filterMap fun (k : Nat) => items[(((items.size : Int) - 1) + (k : Int) * (-1)).toNat]?).toArray >>= _) _ _ s
  rw [pv_pickBack]
  first
    | exact wpAny_bind (m := Builtin.Tuple.tupleExact _) (wpAny_newObj_type (wpAny_pure ⟨_, rfl, wpAny_pure h⟩) hfit)
    | exact wpAny_bind (m := Builtin.Tuple.tupleExact _) (wpAny_newObj_type (wpAny_bind (wpAny_pure (wpAny_pure ⟨_, rfl, wpAny_pure h⟩))) hfit)
    | exact wpAny_bind (wpAny_bind (m := Builtin.Tuple.tupleExact _) (wpAny_newObj_type (wpAny_pure (wpAny_pure ⟨_, rfl, wpAny_pure h⟩)) hfit))
    | exact wpAny_bind (wpAny_bind (m := Builtin.Tuple.tupleExact _) (wpAny_newObj_type (wpAny_pure ⟨_, rfl, wpAny_pure h⟩) hfit))
end
end HT
namespace Pv
open PySem PySem.Spec PyProof.Rows L2
def tRevT (K : PySem.W.Frag) (te : TE) : TE := fun σ H Q => te σ H fun x H1 => ∃ (a : Addr) (xs : List V), x = .ref a ∧ SqT K H1 a xs ∧ ∀ p, H1 p = none → Q (.ref p) (upd H1 p (.tup xs.reverse))
section
variable {X : Cx}
theorem pe_revT {e : Expr} {te : TE} {k : Nat} {p1 p2 p3 pos : Pos} (he : PE X e te) : PE X (.Subscript e (.Slice none none (some (.UnaryOp .USub (.Constant (.int 1) k p1) p2)) p3) pos) (tRevT X.K te) := by
  constructor
  intro pins s σ H Q I h
  refine Subscript_ (thn (he.run pins s σ H _ I h) ?_)
  rintro v s1 ⟨x, H1, I1, r1, a, xs, rfl, hx, q⟩
  cases r1
  have hst : PO X (some (.UnaryOp .USub (.Constant (.int 1) k p1) p2)) (tPart (tUn (rU fun i => .int (-i)) (tC (.int 1)))) := po_some (pe_un un_neg pe_int)
  refine wpAny_Slice (thn (po_none.run pins s1 σ H1 (fun o H2 => o = none ∧ H2 = H1) I1 ⟨rfl, rfl⟩) ?_)
  rintro vl s2 ⟨l, H2, I2, pl, rfl, rfl⟩
  refine thn (po_none.run pins s2 σ H2 (fun o H3 => o = none ∧ H3 = H2) I2 ⟨rfl, rfl⟩) ?_
  rintro vu s3 ⟨u, H3, I3, pu, rfl, rfl⟩
  refine thn (hst.run pins s3 σ H3 (fun o H4 => o = some (-1) ∧ H4 = H3) I3 ⟨1, rfl, -1, rfl, rfl, rfl⟩) ?_
  rintro vs s4 ⟨o, H4, I4, ps, rfl, rfl⟩
  have I5 : Inv X pins σ H4 { s4 with heap := s4.heap.push { cls := .type "slice", data := .fields #[vl, vu, vs] } } := I4.kept (t' := s4.toks) fun b ob q => Heap.get?_push_of_some _ q
  obtain ⟨its, r, ht, hz⟩ := I5.tuple hx
  have hlen := r.length
  cases pl
  cases pu
  cases ps
  show wpAny (model X.prog X.w) X.A (subscriptTail e (.Slice none none (some (.UnaryOp .USub (.Constant (.int 1) k p1) p2)) p3) (.ref a) (.ref s4.heap.objs.size)) (EP X pins σ Q) X.xe _
  refine tail_any (ops := [.ref a, .ref s4.heap.objs.size]) ht.typeIs (PyProof.Rows.slot_tuple_getitem.lookup) ?_ (by with_unfolding_all rfl)
  refine HT.pv_getItemBack ht (Heap.IsSliceOf.new _ _ _ _) ?_ (by rw [List.size_toArray]; omega)
  refine ⟨.ref _, _, I5.laid (t' := s4.toks) (o := .tup xs.reverse) (fun b ob q => Heap.get?_push_of_some _ q) (Nat.le_refl _) ?_, rfl, q _ (I5.hok.fresh (Nat.le_refl _))⟩
  exact ⟨by rw [List.length_reverse]; exact hz, _, r.reverse, IsTup.new _ _⟩
/-! list == [], tuple != () whatever the items are -/
def rEqNil (K : PySem.W.Frag) : R2 := fun x y H Q => ∃ (a b : Addr) (xs : List V), x = .ref a ∧ y = .ref b ∧ SqL K H a xs ∧ SqL K H b [] ∧ Q (.bl xs.isEmpty) H
theorem op_eqNil (hu : X.A.units < cLine) : OpR X (compareOp .Eq) (rEqNil X.K) := by
  intro pins s σ H x y v u Q I rx ry h
  obtain ⟨a, b, xs, rfl, rfl, ha, hb, q⟩ := h
  cases rx
  cases ry
  obtain ⟨its, r1, p1, z1⟩ := I.list ha
  obtain ⟨its2, r2, p2, z2⟩ := I.list hb
  cases r2
  cases xs with
  | nil =>
    cases r1
    exact SeqAt.RcAt.lists (e := fun _ => true) p1.isList p2.isList rfl hu (fun j h1 _ => absurd h1 (Nat.not_lt_zero _)) X.prog X.w _ _ ⟨.bl true, H, I, rfl, q⟩
  | cons x xs =>
    have hl := r1.length
    exact SeqAt.RcAt.lists_lengths p1.isList p2.isList (by rw [List.size_toArray, ← hl]; rfl) hu X.prog X.w _ _ ⟨.bl false, H, I, rfl, q⟩
def rNeNilT (K : PySem.W.Frag) : R2 := fun x y H Q => ∃ (a b : Addr) (xs : List V), x = .ref a ∧ y = .ref b ∧ SqT K H a xs ∧ SqT K H b [] ∧ Q (.bl (!xs.isEmpty)) H
theorem op_neNilT (hu : X.A.units < cLine) : OpR X (compareOp .NotEq) (rNeNilT X.K) := by
  intro pins s σ H x y v u Q I rx ry h
  obtain ⟨a, b, xs, rfl, rfl, ha, hb, q⟩ := h
  cases rx
  cases ry
  obtain ⟨its, r1, p1, z1⟩ := I.tuple ha
  obtain ⟨its2, r2, p2, z2⟩ := I.tuple hb
  cases r2
  have hl := r1.length
  have key := SeqAt.RcNeAt.tuples (A := X.A) (e := fun _ => true) (show s.heap.IsTuple a its.toArray from p1) (show s.heap.IsTuple b ([] : List Value).toArray from p2) hu (fun j _ h2 => absurd h2 (Nat.not_lt_zero _)) X.prog X.w
  have e : (!((List.range (min its.toArray.size ([] : List Value).toArray.size)).all (fun _ => true) && its.toArray.size == ([] : List Value).toArray.size)) = !xs.isEmpty := by
    rw [List.size_toArray, ← hl]
    cases xs <;> simp
  rw [e] at key
  exact key _ _ ⟨.bl _, H, I, rfl, q⟩
end
end Pv

/-! sorted(t), set(t), len(set(t)) of a tuple of ints -/
namespace PyProof.Rows
open PySem
section
variable {prog : Program} {w : World} {A : Around} {E : Value → Shared → Prop} {s : Shared}
theorem pv_collectTup {l : Addr} {vs : List Value} {Q : List Value → Shared → Prop} (hl : s.heap.IsTuple l vs.toArray) (hsz : vs.length ≤ sizeLine)
    (h : Q vs { s with heap := (s.heap.push (seqObj "list" #[] 0)).update s.heap.objs.size (Obj.mapSeq (· ++ vs.toArray)) }) : wpAny (model prog w) A (collect (.ref l)) Q E s := by
  obtain ⟨o, ho, hc, n, hd⟩ := id hl
  have ho1 : (s.heap.push (seqObj "list" #[] 0)).get? l = some o := Heap.get?_push_of_some _ ho
  have htt : (Value.type "tuple" == Value.type "tuple") = true := by rfl
  unfold collect; refine wpAny_bind (wpAny_runValue (codeAny_builtin entry_proto_collect' ?_))
  show wpAny _ _ (do again (.builtin "list.__iadd__" ⟨[← newList [], .ref l], []⟩)) _ _ _
  refine wpAny_bind (wpAny_newList (wpAny_pure ⟨Code.quiet_builtin _ (by decide +kernel), codeAny_builtin entry_list_iadd' ?body⟩))
  case body =>
    show wpAny _ _ (Builtin.List.listExtendWith (.ref s.heap.objs.size) (.ref l) (.ref s.heap.objs.size)) _ _ { s with heap := s.heap.push (seqObj "list" #[] 0), toks := s.toks }
    unfold Builtin.List.listExtendWith; refine wpAny_bind (wpAny_typeOf (T := "tuple") ⟨o, ho1, hc⟩ ?_)
    rw [if_pos (by rw [htt]; simp)]; refine wpAny_bind (listItems_at ho1 hd (wpAny_bind (listItems_at (xs := #[]) (n := 0) (Heap.get?_push_size _ rfl) rfl ?_)))
    rw [if_neg (by simp)]; refine wpAny_bind (listUpdate_at (xs := #[]) (n := 0) (Heap.get?_push_size _ rfl) rfl (wpAny_pure ?_) (Nat.zero_le _) (by show (#[] ++ vs.toArray).size ≤ sizeLine + 1; simp only [Array.size_append, List.size_toArray, List.length_nil]; omega))
    show wpAny (model prog w) A (do match (← load s.heap.objs.size).data with | .seq xs _ => pure xs.toList | _ => unsupported "internal:collect") Q E { s with heap := (s.heap.push (seqObj "list" #[] 0)).update s.heap.objs.size (Obj.mapSeq (· ++ vs.toArray)), toks := s.toks }
    refine wpAny_bind (wpAny_load (get?_update_seq (Heap.get?_push_size _ rfl) _) ?_)
    show wpAny _ _ (pure ((#[] : Array Value) ++ vs.toArray).toList) Q E { s with heap := _ }
    rw [show ((#[] : Array Value) ++ vs.toArray).toList = vs by simp]; exact wpAny_pure h
theorem pv_sortedTup {l : Addr} {vs : List Value} {ns : List Int} {Q : Value → Shared → Prop} (hl : s.heap.IsTuple l vs.toArray) (hI : IntsAre vs ns) (h64 : vs.length < 64)
    (h : ∀ (out : Array Value) (ns' : List Int), IntsAre out.toList ns' → ns'.Perm ns → ns'.Pairwise (· ≤ ·) → Q (.ref (s.heap.objs.size + 1)) { s with heap := sortedAll s.heap vs out }) :
    wpAny (model prog w) A (call (.builtin "sorted") [.ref l]) Q E s := by
  refine Calls.call_function_entry kind_sorted plain_sorted entry_sorted (args_sorted1 _) ?tree
  case tree =>
    unfold Builtin.«sorted»; refine wpAny_bind (m := checkCount "sorted" 1 1 _) (wpAny_pure (wpAny_bind (pv_collectTup hl (by rw [sizeLine_eq]; omega) (wpAny_bind (wpAny_newList ?new (by rw [sizeLine_eq]; omega))))))
    case new =>
      have e1 : ((s.heap.push (seqObj "list" #[] 0)).update s.heap.objs.size (Obj.mapSeq (· ++ vs.toArray))).objs.size = s.heap.objs.size + 1 := by rw [Heap.size_update, size_push']
      have e2 : (((s.heap.push (seqObj "list" #[] 0)).update s.heap.objs.size (Obj.mapSeq (· ++ vs.toArray))).push (seqObj "list" vs.toArray 0)).get? (s.heap.objs.size + 1) = some (seqObj "list" vs.toArray 0) := by rw [← e1]; exact Heap.get?_push_size _ rfl
      show wpAny _ _ _ _ _ { s with heap := ((s.heap.push (seqObj "list" #[] 0)).update s.heap.objs.size (Obj.mapSeq (· ++ vs.toArray))).push (seqObj "list" vs.toArray 0), toks := s.toks }
      rw [e1]; exact wpAny_bind (wpAny_holding (wpAny_call_entry slot_list_sort ⟨_, e2, rfl⟩ entry_list_sort (list_sort_tree e2 hI h64 fun out ns' a1 a2 a3 => ⟨_, rfl, wpAny_pure ⟨_, rfl, h out ns' a1 a2 a3⟩⟩) (args_list_sort _)))
end
end PyProof.Rows
namespace Pv
open PySem PySem.Spec PyProof.Rows L2
section
variable {X : Cx}
def rSortedT (K : PySem.W.Frag) : RC := fun vs H Q => ∃ (a : Addr) (ns : List Int), vs = [V.ref a] ∧ SqT K H a (ns.map V.int) ∧ ns.length < 64 ∧
  ∀ (ns' : List Int) (p : Addr), ns'.Perm ns → ns'.Pairwise (· ≤ ·) → H p = none → Q (.ref p) (upd H p (.lst (ns'.map V.int)))
theorem cr_sortedT : CallR X (.builtin "sorted") (rSortedT X.K) := by
  intro pins s σ H vs us Q I rel h
  obtain ⟨a, ns, e, hs, h64, q⟩ := h
  subst e
  obtain ⟨its, rv, ht, hz⟩ := I.tuple hs
  rw [Vals.ref1 rel]
  have hi := rv.ints
  refine pv_sortedTup (show s.heap.IsTuple a its.toArray from ht) hi (by rw [hi.length]; exact h64) ?_
  intro out ns' h1 h2 h3
  obtain ⟨ep, he⟩ := PyProof.Rows.sortedAll_at s.heap its out
  have hlen : (ns'.map V.int).length ≤ sizeLine := by rw [List.length_map, h2.length_eq, sizeLine_eq]; omega
  exact ⟨.ref _, _, I.laid (a := s.heap.objs.size + 1) (o := .lst (ns'.map V.int)) (t' := s.toks) (fun _ _ => PyProof.Rows.sortedAll_old) (Nat.le_succ _) ⟨hlen, out.toList, ep, vals_of_ints h1, he⟩, rfl, q ns' _ h2 h3 (I.hok.fresh (Nat.le_succ _))⟩
def rSetT (w : World) (K : PySem.W.Frag) : RC := fun vs H Q => ∃ (a : Addr) (ns : List Int), vs = [V.ref a] ∧ SqT K H a (ns.map V.int) ∧ ns.length < 60 ∧
  ∀ (p : Addr) (c : Nat), H p = none → (∃ ks : List Int, ks.Nodup ∧ (∀ k, k ∈ ks ↔ k ∈ ns) ∧ ks.length = c) → c ≤ ns.length → Q (.ref p) (upd H p (SetO w p (fun j => decide (j ∈ ns)) c))
theorem cr_setT (hc : X.calm = true) : CallR X (.type "set") (rSetT X.w X.K) := by
  intro pins s σ H vs us Q I rel h
  obtain ⟨a, ns, e, hs, h60, q⟩ := h
  subst e
  obtain ⟨its, rv, ht, hz⟩ := I.tuple hs
  rw [Vals.ref1 rel]
  have hi := rv.ints
  have hsb : scanBound > 61 := by decide
  refine call_set_tupI ns (I.ok.hd hc) (show s.heap.IsTuple a its.toArray from ht) (by simpa using hi) (by omega) ?_
  intro h' tk c R hcn kp
  refine ⟨.ref s.heap.objs.size, _, I.laid (a := s.heap.objs.size) (o := SetO X.w s.heap.objs.size (fun j => decide (j ∈ ns)) c) (t' := tk) kp (Nat.le_refl _) (setO_new R), rfl, q _ c (I.hok.fresh (Nat.le_refl _)) ?_ hcn⟩
  obtain ⟨o, es, ep, t, _, _, _, _, nd, hm, _, _, hn, _⟩ := R
  exact ⟨es.toList.map keyOf, nd, fun k => by rw [← hm k]; simp, by rw [List.length_map, Array.length_toList]; exact hn⟩
def rLenS' (w : World) : RC := fun vs H Q => ∃ (a : Addr) (S : Int → Bool) (n : Nat), vs = [V.ref a] ∧ H a = some (SetO w a S n) ∧ Q (.int n) H
theorem cr_lenSet : CallR X (.builtin "len") (rLenS' X.w) := by
  intro pins s σ H vs us Q I rel h
  obtain ⟨a, S, n, e, ha, q⟩ := h
  subst e
  rw [Vals.ref1 rel]
  obtain ⟨o, es, ep, t, ho, hx, hd, _, _, _, hb, hf, hn, _⟩ := setO_get I ha
  subst hn
  have hsb : scanBound < 2 ^ 62 := by decide
  exact call_len_set ho hx hd hf (by omega) ⟨.int _, H, I.tok _, ⟨_, rfl⟩, q⟩
end
/-! what the size of the set tells -/
theorem len_sub : ∀ {ks ns : List Int}, ks.Nodup → (∀ k ∈ ks, k ∈ ns) → ks.length ≤ ns.length
  | [], _, _, _ => Nat.zero_le _
  | k :: ks, ns, nd, h => by
    obtain ⟨n1, n2⟩ := List.nodup_cons.mp nd
    have hk := h k (by simp)
    have h1 := len_sub (ks := ks) (ns := ns.erase k) n2 (fun x hx => by
      have hne : x ≠ k := fun z => n1 (by rw [← z]; exact hx)
      exact (List.mem_erase_of_ne hne).mpr (h x (by simp [hx])))
    rw [List.length_erase_of_mem hk] at h1
    have := List.length_pos_of_mem hk
    rw [List.length_cons]; omega
theorem len_nodup : ∀ {ns ks : List Int}, ks.Nodup → (∀ k, k ∈ ks ↔ k ∈ ns) → (ks.length = ns.length ↔ ns.Nodup) := by
  intro ns ks nd hm
  constructor
  · intro hl
    induction ns generalizing ks with
    | nil => exact List.nodup_nil
    | cons n ns ih =>
      have hn : n ∈ ks := (hm n).mpr (by simp)
      have hnot : n ∉ ns := by
        intro hin
        have := len_sub nd (ns := ns) (fun k hk => by
          rcases List.mem_cons.mp ((hm k).mp hk) with rfl | h
          · exact hin
          · exact h)
        rw [List.length_cons] at hl; omega
      refine List.nodup_cons.mpr ⟨hnot, ih (ks := ks.erase n) (nd.erase n) (fun k => ?_) ?_⟩
      · rw [nd.mem_erase_iff, hm k, List.mem_cons]
        constructor
        · rintro ⟨h1, h2 | h2⟩
          · exact absurd h2 h1
          · exact h2
        · intro h
          exact ⟨fun z => hnot (z ▸ h), .inr h⟩
      · rw [List.length_erase_of_mem hn, hl, List.length_cons]; rfl
  · intro hn
    exact Nat.le_antisymm (len_sub nd fun k hk => (hm k).mp hk) (len_sub hn fun k hk => (hm k).mpr hk)
theorem lt_unique : ∀ {as bs : List Int}, as.Pairwise (· < ·) → bs.Pairwise (· < ·) → (∀ k, k ∈ as ↔ k ∈ bs) → as = bs
  | [], [], _, _, _ => rfl
  | [], b :: bs, _, _, h => by have := (h b).mpr (by simp); cases this
  | a :: as, [], _, _, h => by have := (h a).mp (by simp); cases this
  | a :: as, b :: bs, ha, hb, h => by
    obtain ⟨a1, a2⟩ := List.pairwise_cons.mp ha
    obtain ⟨b1, b2⟩ := List.pairwise_cons.mp hb
    have e : a = b := by
      rcases List.mem_cons.mp ((h a).mp (by simp)) with h1 | h1
      · exact h1
      · rcases List.mem_cons.mp ((h b).mpr (by simp)) with h2 | h2
        · exact h2.symm
        · have := b1 a h1; have := a1 b h2; omega
    subst e
    rw [lt_unique a2 b2 (fun k => ?_)]
    constructor
    · intro hk
      rcases List.mem_cons.mp ((h k).mp (List.mem_cons_of_mem _ hk)) with h1 | h1
      · have := a1 k hk; omega
      · exact h1
    · intro hk
      rcases List.mem_cons.mp ((h k).mpr (List.mem_cons_of_mem _ hk)) with h1 | h1
      · have := b1 k hk; omega
      · exact h1
theorem sort_nodup {ns ns' ms : List Int} (hp : ns'.Perm ns) (hs : ns'.Pairwise (· ≤ ·)) (hm : ms.Pairwise (· < ·)) (h : ∀ k, k ∈ ms ↔ k ∈ ns) : ns' = ms ↔ ns.Nodup := by
  constructor
  · intro e
    subst e
    exact hp.nodup_iff.mp (hm.imp fun {a b} h => by omega)
  · intro hn
    have hn' : ns'.Nodup := hp.nodup_iff.mpr hn
    refine lt_unique ?_ hm (fun k => by rw [hp.mem_iff, h k])
    exact (hs.and hn').imp fun {a b} h => by have := h.1; have := h.2; omega
end Pv

namespace Pv
open PySem PySem.Spec PyProof.Rows L2
/-! how large data is -/
mutual
def fit (M : Nat) : PyData → Prop
  | .none => True
  | .bool _ => True
  | .int i => i.natAbs ≤ M
  | .str x => (reprText x).length ≤ 400
  | .list xs => fitAll M xs
  | .tuple xs => fitAll M xs
  | .dict kvs => (PyData.shown (.dict kvs)).length ≤ 40 ∧ PyData.showable (.dict kvs) = true
def fitAll (M : Nat) : List PyData → Prop
  | [] => True
  | x :: xs => fit M x ∧ fitAll M xs
end
mutual
def wt : PyData → Nat
  | .none => 40
  | .bool _ => 40
  | .int _ => 40
  | .str _ => 400
  | .list xs => wtAll xs + 3
  | .tuple xs => wtAll xs + 3
  | .dict _ => 40
def wtAll : List PyData → Nat
  | [] => 0
  | x :: xs => wt x + 2 + wtAll xs
end
theorem int_text {i : Int} {M : Nat} (h : i.natAbs ≤ M) (hM : M < 10 ^ 35) : (PyData.int i).showable = true ∧ (PyData.int i).shown.length ≤ 40 := by
  have h' : i.natAbs < 10 ^ 35 := by omega
  refine ⟨?_, ?_⟩
  · simp only [PyData.showable, decide_eq_true_eq]
    have : i.natAbs.log2 < 200 := by
      by_cases h0 : i.natAbs = 0
      · rw [h0]; decide
      · exact (Nat.log2_lt h0).mpr (Nat.lt_trans h' (by decide))
    omega
  · have e := int_text_length_le10 (k := 35) (by decide) h'
    show (Str.ofString (toString i)).length ≤ 40
    rw [PySem.ofString_length]
    omega
mutual
theorem fit_ok {M : Nat} (hM : M < 10 ^ 35) : ∀ {d : PyData}, fit M d → d.showable = true ∧ d.shown.length ≤ wt d
  | .none, _ => by simp only [PyData.showable, PyData.shown, wt]; decide
  | .bool b, _ => by cases b <;> (simp only [PyData.showable, PyData.shown, wt]; decide)
  | .int i, h => by
    have := int_text (i := i) (M := M) (by simpa only [fit] using h) hM
    simp only [wt]; exact this
  | .str x, h => by simp only [fit] at h; simp only [PyData.showable, PyData.shown, wt]; exact ⟨trivial, h⟩
  | .list xs, h => by
    obtain ⟨h1, h2⟩ := fitAll_ok hM (xs := xs) (by simpa only [fit] using h)
    simp only [PyData.showable, PyData.shown, wt]
    refine ⟨h1, ?_⟩
    have e := listText_len_le (PyData.shownAll xs)
    omega
  | .tuple xs, h => by
    obtain ⟨h1, h2⟩ := fitAll_ok hM (xs := xs) (by simpa only [fit] using h)
    simp only [PyData.showable, PyData.shown, wt]
    refine ⟨h1, ?_⟩
    have e := tupleText_len_le (PyData.shownAll xs)
    omega
  | .dict kvs, h => by simp only [fit] at h; simp only [wt]; exact ⟨h.2, h.1⟩
theorem fitAll_ok {M : Nat} (hM : M < 10 ^ 35) : ∀ {xs : List PyData}, fitAll M xs → PyData.showableAll xs = true ∧ ((PyData.shownAll xs).map (·.length)).sum + 2 * (PyData.shownAll xs).length ≤ wtAll xs
  | [], _ => by simp [PyData.showableAll, PyData.shownAll, wtAll]
  | x :: xs, h => by
    have h' : fit M x ∧ fitAll M xs := by simpa only [fitAll] using h
    obtain ⟨a1, a2⟩ := fit_ok hM h'.1
    obtain ⟨b1, b2⟩ := fitAll_ok hM h'.2
    refine ⟨by simp [PyData.showableAll, a1, b1], ?_⟩
    simp only [PyData.shownAll, List.map_cons, List.sum_cons, List.length_cons, wtAll]
    omega
end
mutual
theorem fit_mono {M M' : Nat} (h : M ≤ M') : ∀ {d : PyData}, fit M d → fit M' d
  | .none, _ => by simp [fit]
  | .bool _, _ => by simp [fit]
  | .int i, q => by simp only [fit] at *; omega
  | .str x, q => by simpa only [fit] using q
  | .list xs, q => by simp only [fit] at *; exact fitAll_mono h q
  | .tuple xs, q => by simp only [fit] at *; exact fitAll_mono h q
  | .dict _, q => by simpa only [fit] using q
theorem fitAll_mono {M M' : Nat} (h : M ≤ M') : ∀ {xs : List PyData}, fitAll M xs → fitAll M' xs
  | [], _ => by simp [fitAll]
  | x :: xs, q => by
    have q' : fit M x ∧ fitAll M xs := by simpa only [fitAll] using q
    simp only [fitAll]
    exact ⟨fit_mono h q'.1, fitAll_mono h q'.2⟩
end
theorem fitAll_iff {M : Nat} : ∀ {xs : List PyData}, fitAll M xs ↔ ∀ x ∈ xs, fit M x
  | [] => by simp [fitAll]
  | x :: xs => by simp [fitAll, fitAll_iff (xs := xs)]
theorem wtAll_app : ∀ (xs ys : List PyData), wtAll (xs ++ ys) = wtAll xs + wtAll ys
  | [], ys => by simp [wtAll]
  | x :: xs, ys => by simp only [List.cons_append, wtAll, wtAll_app xs ys]; omega
theorem wtAll_rev : ∀ xs : List PyData, wtAll xs.reverse = wtAll xs
  | [] => rfl
  | x :: xs => by rw [List.reverse_cons, wtAll_app, wtAll_rev xs]; simp only [wtAll]; omega
theorem wtAll_split (xs : List PyData) (n : Nat) : wtAll xs = wtAll (xs.take n) + wtAll (xs.drop n) := by rw [← wtAll_app, List.take_append_drop]
theorem wtAll_len : ∀ xs : List PyData, 2 * xs.length ≤ wtAll xs
  | [] => by simp [wtAll]
  | x :: xs => by have := wtAll_len xs; simp only [wtAll, List.length_cons]; omega
theorem depthAll_le {k : Nat} : ∀ {xs : List PyData}, PyData.depthAll xs ≤ k ↔ ∀ x ∈ xs, x.depth ≤ k
  | [] => by simp [PyData.depthAll]
  | x :: xs => by
    have := depthAll_le (k := k) (xs := xs)
    simp only [PyData.depthAll, List.mem_cons, forall_eq_or_imp, ← this]
    omega
structure Fit (M k W : Nat) (d : PyData) : Prop where
  ok : fit M d
  dp : d.depth ≤ k
  wt : wt d ≤ W
theorem Fit.mono {M M' k k' W W' : Nat} {d : PyData} (h : Fit M k W d) (h1 : M ≤ M') (h2 : k ≤ k') (h3 : W ≤ W') : Fit M' k' W' d := ⟨fit_mono h1 h.ok, Nat.le_trans h.dp h2, Nat.le_trans h.wt h3⟩
theorem Fit.at {M k W : Nat} {ds : List PyData} {d : PyData} (h : Fit M k W (.tuple ds)) (hm : d ∈ ds) : Fit M (k - 1) W d ∧ d.depth + 1 ≤ (PyData.tuple ds).depth ∧ 1 ≤ k := by
  have h1 : fitAll M ds := by have := h.ok; simpa only [fit] using this
  have h2 := h.dp
  simp only [PyData.depth] at h2
  have h3 : ∀ x ∈ ds, x.depth ≤ PyData.depthAll ds := depthAll_le.mp (Nat.le_refl _)
  have h4 := h3 d hm
  refine ⟨⟨fitAll_iff.mp h1 d hm, by omega, ?_⟩, by simp only [PyData.depth]; omega, by omega⟩
  obtain ⟨a, b, rfl⟩ := List.append_of_mem hm
  have h5 := h.wt
  simp only [Pv.wt, wtAll_app, wtAll] at h5
  omega
/-- a tuple made of parts -/
theorem Fit.tup {M k W : Nat} {ds : List PyData} (h1 : ∀ d ∈ ds, fit M d ∧ d.depth + 1 ≤ k) (h0 : 1 ≤ k) (h2 : wtAll ds + 3 ≤ W) : Fit M k W (.tuple ds) := by
  refine ⟨by simp only [fit]; exact fitAll_iff.mpr fun d hd => (h1 d hd).1, ?_, by simpa only [Pv.wt] using h2⟩
  simp only [PyData.depth]
  have : PyData.depthAll ds ≤ k - 1 := depthAll_le.mpr fun d hd => by have := (h1 d hd).2; omega
  omega
theorem Fit.lst {M k W : Nat} {ds : List PyData} (h1 : ∀ d ∈ ds, fit M d ∧ d.depth + 1 ≤ k) (h0 : 1 ≤ k) (h2 : wtAll ds + 3 ≤ W) : Fit M k W (.list ds) := by
  refine ⟨by simp only [fit]; exact fitAll_iff.mpr fun d hd => (h1 d hd).1, ?_, by simpa only [Pv.wt] using h2⟩
  simp only [PyData.depth]
  have : PyData.depthAll ds ≤ k - 1 := depthAll_le.mpr fun d hd => by have := (h1 d hd).2; omega
  omega
theorem Fit.parts {M k W : Nat} {ds : List PyData} (h : Fit M k W (.tuple ds)) : (∀ d ∈ ds, fit M d ∧ d.depth + 1 ≤ k) ∧ 1 ≤ k ∧ wtAll ds + 3 ≤ W := by
  have h0 : 1 ≤ k := by have := h.dp; simp only [PyData.depth] at this; omega
  refine ⟨fun d hd => ⟨(h.at hd).1.ok, ?_⟩, h0, by have := h.wt; simpa only [Pv.wt] using this⟩
  have := (h.at hd).1.dp
  omega
theorem Fit.int {M k W : Nat} {i : Int} (h : i.natAbs ≤ M) (hW : 40 ≤ W) : Fit M k W (.int i) := ⟨by simpa only [fit] using h, by simp [PyData.depth], by simpa only [Pv.wt] using hW⟩
/-- what is shown together -/
theorem fit_pair {M : Nat} (hM : M < 10 ^ 35) {k W : Nat} {a b : PyData} (ha : Fit M k W a) (hb : Fit M k W b) (hk : k ≤ 50) (hW : W ≤ 1000000) :
    (PyData.list [a, b]).showable = true ∧ (PyData.list [a, b]).depth ≤ 60 ∧ (PyData.list [a, b]).shown.length ≤ sizeLine := by
  have h : Fit M (k + 1) (2 * W + 10) (.list [a, b]) := by
    refine Fit.lst ?_ (by omega) ?_
    · intro d hd
      rcases List.mem_cons.mp hd with rfl | hd
      · exact ⟨ha.ok, by have := ha.dp; omega⟩
      · rcases List.mem_cons.mp hd with rfl | hd
        · exact ⟨hb.ok, by have := hb.dp; omega⟩
        · cases hd
    · have h1 := ha.wt
      have h2 := hb.wt
      simp only [wtAll]; omega
  obtain ⟨s1, s2⟩ := fit_ok hM h.ok
  refine ⟨s1, Nat.le_trans h.dp (by omega), Nat.le_trans s2 (Nat.le_trans h.wt ?_)⟩
  rw [sizeLine_eq]; omega
/-! the data of instances and assignments -/
theorem fit_dI {M : Nat} {ns : List Int} (h : ∀ i ∈ ns, i.natAbs ≤ M) : Fit M 1 (ns.length * 42 + 3) (dI ns) := by
  have hw : wtAll (ns.map PyData.int) = ns.length * 42 := by
    clear h
    induction ns with
    | nil => rfl
    | cons a ns ih => simp only [List.map_cons, wtAll, wt, ih, List.length_cons]; omega
  refine Fit.tup ?_ (by decide) (by rw [hw]; exact Nat.le_refl _)
  intro d hd
  obtain ⟨i, hi, rfl⟩ := List.mem_map.mp hd
  exact ⟨by simpa only [fit] using h i hi, by simp [PyData.depth]⟩
theorem wtAll_le {W : Nat} : ∀ {ds : List PyData}, (∀ d ∈ ds, wt d ≤ W) → wtAll ds ≤ ds.length * (W + 2)
  | [], _ => by simp [wtAll]
  | d :: ds, h => by
    have h1 := h d (by simp)
    have h2 := wtAll_le (W := W) (ds := ds) (fun x hx => h x (by simp [hx]))
    simp only [wtAll, List.length_cons, Nat.succ_mul]; omega
theorem fit_dAsg {M : Nat} {rows : List (List Int)} (h : ∀ row ∈ rows, row.length ≤ 10 ∧ ∀ i ∈ row, i.natAbs ≤ M) (hr : rows.length ≤ 20) : Fit M 2 10000 (dAsg rows) := by
  unfold dAsg
  refine Fit.tup ?_ (by decide) ?_
  · intro d hd
    obtain ⟨row, hrow, rfl⟩ := List.mem_map.mp hd
    have := fit_dI (M := M) (h row hrow).2
    exact ⟨this.ok, by have := this.dp; omega⟩
  · have := wtAll_le (W := 430) (ds := rows.map dI) (by
      intro d hd
      obtain ⟨row, hrow, rfl⟩ := List.mem_map.mp hd
      have := (fit_dI (M := M) (h row hrow).2).wt
      have := (h row hrow).1
      omega)
    rw [List.length_map] at this
    omega
theorem fit_dInst {M : Nat} {cs : List Int} {gs : List Gp} (hc : cs.length ≤ 10 ∧ ∀ i ∈ cs, i.natAbs ≤ M) (hg : gs.length ≤ 20) (h : ∀ g ∈ gs, g.1.length ≤ 10 ∧ (∀ i ∈ g.1, i.natAbs ≤ M) ∧ g.2.natAbs ≤ M) : Fit M 5 20000 (dInst cs gs) := by
  have f1 := fit_dI hc.2
  have f2 : ∀ g ∈ gs, Fit M 2 600 (dGrp g) := by
    intro g hgm
    have f3 := fit_dI (M := M) (h g hgm).2.1
    have hl := (h g hgm).1
    unfold dGrp
    refine Fit.tup ?_ (by decide) ?_
    · intro d hd
      rcases List.mem_cons.mp hd with rfl | hd
      · exact ⟨f3.ok, by have := f3.dp; omega⟩
      · rcases List.mem_cons.mp hd with rfl | hd
        · exact ⟨by simpa only [fit] using (h g hgm).2.2, by simp [PyData.depth]⟩
        · cases hd
    · have := f3.wt
      simp only [wtAll, Pv.wt]; omega
  have f4 : Fit M 3 13000 (.tuple (gs.map dGrp)) := by
    refine Fit.tup ?_ (by decide) ?_
    · intro d hd
      obtain ⟨g, hgm, rfl⟩ := List.mem_map.mp hd
      exact ⟨(f2 g hgm).ok, by have := (f2 g hgm).dp; omega⟩
    · have := wtAll_le (W := 600) (ds := gs.map dGrp) (by
        intro d hd
        obtain ⟨g, hgm, rfl⟩ := List.mem_map.mp hd
        exact (f2 g hgm).wt)
      rw [List.length_map] at this
      omega
  unfold dInst
  refine Fit.tup ?_ (by decide) ?_
  · intro d hd
    rcases List.mem_cons.mp hd with rfl | hd
    · exact ⟨f1.ok, by have := f1.dp; omega⟩
    · rcases List.mem_cons.mp hd with rfl | hd
      · exact ⟨f4.ok, by have := f4.dp; omega⟩
      · cases hd
  · have h1 := f1.wt
    have h2 := f4.wt
    have := hc.1
    simp only [wtAll]; omega
end Pv

namespace Pv
open PySem PySem.Spec PyProof.Rows L2
/-! repr of any such value -/
theorem call_reprA {X : Cx} (hg : X.A.guards = some []) (hu : X.A.units + 70 < cLine) : CallR X (.builtin "repr")
    (fun xs H Q => ∃ v d st r, xs = [v] ∧ Dq X.K st r H v d ∧ d.showable = true ∧ d.depth ≤ 60 ∧ d.shown.length ≤ sizeLine ∧ Q (.str d.shown) H) := by
  intro pins s σ H xs us Q I rv h
  obtain ⟨v, d, st, r, rfl, hd, h1, h3, h4, q⟩ := h
  by_cases hv : ∃ a, v = .ref a
  · obtain ⟨a, rfl⟩ := hv
    exact call_reprQ hg hu pins s σ H _ us Q I rv ⟨a, d, st, r, rfl, hd, h1, h3, h4, q⟩
  · obtain ⟨u, rfl, ru⟩ := vals1 rv
    cases hd with
    | non => cases ru; exact PySem.P.repr_of_none ⟨.str _, H, I.tok _, ⟨_, rfl⟩, q⟩
    | bl b => cases ru; cases b <;> exact PySem.P.repr_of_bool ⟨.str _, H, I.tok _, ⟨_, rfl⟩, q⟩
    | int i =>
      obtain ⟨t, rfl⟩ := ru
      exact PySem.P.repr_of_int (by simpa [PyData.showable] using h1) ⟨.str _, H, I.tok _, ⟨_, rfl⟩, q⟩
    | str x =>
      obtain ⟨t, rfl⟩ := ru
      exact PySem.P.repr_of_str ⟨.str _, H, I.tok _, ⟨_, rfl⟩, q⟩ h4
    | lst _ => exact absurd ⟨_, rfl⟩ hv
    | tup _ => exact absurd ⟨_, rfl⟩ hv
    | dct _ => exact absurd ⟨_, rfl⟩ hv
/-! written values -/
def tLit (K : PySem.W.Frag) (d : PyData) : TE := fun _ H Q => ∃ st r, (H st ≠ none ∧ H r ≠ none) ∧ ∀ H' v, Same H H' → Dq K st r H' v d → Q v H'
def tLits (K : PySem.W.Frag) (ds : List PyData) : TA := fun _ H Q => ∃ st r, (H st ≠ none ∧ H r ≠ none) ∧ ∀ H' vs, Same H H' → DqAll K st r H' vs ds → Q vs H'
theorem occ {H H' : Hp} {st r : Addr} (h : H st ≠ none ∧ H r ≠ none) (s : Same H H') : H' st ≠ none ∧ H' r ≠ none := by
  obtain ⟨h1, h2⟩ := h
  constructor
  · cases e : H st with
    | none => exact absurd e h1
    | some o => rw [s _ _ e]; simp
  · cases e : H r with
    | none => exact absurd e h2
    | some o => rw [s _ _ e]; simp
theorem occ_ne {H : Hp} {st r p : Addr} (h : H st ≠ none ∧ H r ≠ none) (np : H p = none) : p ≠ st ∧ p ≠ r := ⟨fun e => h.1 (e ▸ np), fun e => h.2 (e ▸ np)⟩
theorem DqAll.rep {K : PySem.W.Frag} {st r : Addr} {H : Hp} {vs : List V} {ds : List PyData} (h : DqAll K st r H vs ds) : ∀ k : Nat, DqAll K st r H (List.replicate k vs).flatten (List.replicate k ds).flatten
  | 0 => .nil
  | k + 1 => by
    rw [List.replicate_succ, List.replicate_succ, List.flatten_cons, List.flatten_cons]
    exact h.app (DqAll.rep h k)
section
variable {X : Cx} {e : Expr} {es : List Expr} {pos p1 p2 : Pos} {d : PyData} {ds : List PyData}
theorem pe_mono {t t' : TE} (h : PE X e t) (m : ∀ σ H Q, t' σ H Q → t σ H Q) : PE X e t' := ⟨fun pins s σ H Q I q => h.run pins s σ H Q I (m _ _ _ q)⟩
theorem pa_mono {t t' : TA} (h : PA X es t) (m : ∀ σ H Q, t' σ H Q → t σ H Q) : PA X es t' := ⟨fun pos pins s σ H Q I q => h.run pos pins s σ H Q I (m _ _ _ q)⟩
theorem lit_c {v : V} (h : PE X e (tC v)) (hd : ∀ st r H, Dq X.K st r H v d) : PE X e (tLit X.K d) := pe_mono h fun σ H Q ⟨st, r, _, q⟩ => q H v (Same.refl H) (hd st r H)
theorem lit_int {n : Int} (h : PE X e (tC (.int n))) : PE X e (tLit X.K (.int n)) := lit_c h fun _ _ _ => .int n
theorem lit_bl {b : Bool} (h : PE X e (tC (.bl b))) : PE X e (tLit X.K (.bool b)) := lit_c h fun _ _ _ => .bl b
theorem lit_str {x : Str} (h : PE X e (tC (.str x))) : PE X e (tLit X.K (.str x)) := lit_c h fun _ _ _ => .str x
theorem lit_non (h : PE X e (tC .non)) : PE X e (tLit X.K .none) := lit_c h fun _ _ _ => .non
theorem lit_pow {a b : Int} (h : PE X e (tOp (rI CPow fun i j => .int (i ^ j.toNat)) (tC (.int a)) (tC (.int b)))) (hc : CPow a b) : PE X e (tLit X.K (.int (a ^ b.toNat))) :=
  pe_mono h fun σ H Q ⟨st, r, _, q⟩ => ⟨a, b, rfl, rfl, hc, q H _ (Same.refl H) (.int _)⟩
theorem lit_add {e1 e2 : Expr} {a b : Int} (h1 : PE X e1 (tLit X.K (.int a))) (h2 : PE X e2 (tLit X.K (.int b))) : PE X (.BinOp e1 .Add e2 pos) (tLit X.K (.int (a + b))) :=
  pe_mono (pe_op op_add h1 h2) fun σ H Q ⟨st, r, oc, q⟩ => ⟨st, r, oc, fun H1 v1 s1 d1 => ⟨st, r, occ oc s1, fun H2 v2 s2 d2 => by
    cases d1; cases d2
    exact ⟨a, b, rfl, rfl, q H2 _ (s1.trans s2) (.int _)⟩⟩⟩
theorem lits_nil : PA X [] (tLits X.K []) := pa_mono pa_nil fun σ H Q ⟨st, r, _, q⟩ => q H [] (Same.refl H) .nil
theorem lits_cons (h : PE X e (tLit X.K d)) (hs : PA X es (tLits X.K ds)) (hq : starEach (e :: es) X.env = (false, eval e X.env) :: starEach es X.env := by rfl) : PA X (e :: es) (tLits X.K (d :: ds)) :=
  pa_mono (pa_cons h hs hq) fun σ H Q ⟨st, r, oc, q⟩ => ⟨st, r, oc, fun H1 v s1 d1 => ⟨st, r, occ oc s1, fun H2 vs s2 d2 => q H2 _ (s1.trans s2) (.cons (d1.lasts (.of s2)) d2)⟩⟩
theorem small6 {n : Nat} (h : n ≤ 1000000) : n ≤ sizeLine := Nat.le_of_lt (Nat.lt_of_le_of_lt h (by decide))
theorem lit_tup {k : Nat} (h : PA X es (tLits X.K ds)) (hl : ds.length ≤ 1000000) : PE X (.Tuple es k pos) (tLit X.K (.tuple ds)) :=
  pe_mono (pe_tup h) fun σ H Q ⟨st, r, oc, q⟩ => ⟨st, r, oc, fun H1 vs s1 d1 => ⟨by rw [DqAll.len d1]; exact small6 hl, fun p np => q _ _ (s1.trans (sameNew np)) (.tup (SqT.of upd_same) (d1.lasts (.of (sameNew np))))⟩⟩
theorem lit_lst (h : PA X es (tLits X.K ds)) (hl : ds.length ≤ 1000000) : PE X (.List es pos) (tLit X.K (.list ds)) :=
  pe_mono (pe_lstS h) fun σ H Q ⟨st, r, oc, q⟩ => ⟨st, r, oc, fun H1 vs s1 d1 => ⟨by rw [DqAll.len d1]; exact small6 hl, fun p np ns => q _ _ (s1.trans (sameNew np)) (.lst upd_same (occ_ne (occ oc s1) np).1 (occ_ne (occ oc s1) np).2 ns (d1.lasts (.of (sameNew np))))⟩⟩
theorem lit_dict : PE X (.Dict [] [] pos) (tLit X.K (.dict [])) :=
  pe_mono pe_dnewK fun σ H Q ⟨st, r, oc, q⟩ => fun p np => q _ _ (sameNew np) (.dct (kvs := []) upd_same)
theorem lit_rep {e2 : Expr} {n : Int} (k : Nat) (h : PE X e (tLit X.K (.tuple ds))) (h2 : PE X e2 (tC (.int n))) (hk : n = (k : Nat)) (h1 : k ≠ 1) (hne : ds ≠ []) (hk2 : k ≤ 1000) (hl : ds.length ≤ 1000) :
    PE X (.BinOp e .Mult e2 pos) (tLit X.K (.tuple (List.replicate k ds).flatten)) :=
  pe_mono (pe_op op_repA h h2) fun σ H Q ⟨st, r, oc, q⟩ => ⟨st, r, oc, fun H1 v s1 d1 => by
    cases d1 with
    | @tup a xs _ hT ha =>
      have hx := DqAll.len ha
      refine ⟨a, k, xs, rfl, by rw [hk], hT, ?_, hk2, by omega, fun z => absurd z h1, fun _ p np => q _ _ (s1.trans (sameNew np)) (.tup (SqT.of upd_same) ((ha.rep k).lasts (.of (sameNew np))))⟩
      intro z
      subst z
      exact hne (List.eq_nil_of_length_eq_zero (by simpa using hx.symm))⟩
end
/-- a list and a written list behind it -/
theorem cat_lits {K : PySem.W.Frag} {st r L : Addr} {σ : L2.St} {H1 : Hp} {ds es : List PyData} {Q : VK} {vs : List V} (e1 : H1 L = some (.lst vs)) (h1 : DqAll K st r H1 vs ds) (hoc : H1 st ≠ none ∧ H1 r ≠ none) (hlen : ds.length + es.length ≤ 1000000)
    (hq : ∀ H' L' vs', Same H1 H' → H' L' = some (.lst vs') → L' ≠ st → L' ≠ r → DqAll K st r H' vs' (ds ++ es) → Q (.ref L') H') : tLst (tLits K es) σ H1 (fun y H2 => rCat (.ref L) y H2 Q) := by
  refine ⟨st, r, hoc, fun H2 v2 s2 h2 => ⟨by rw [DqAll.len h2]; exact small6 (by omega), fun M nM => ?_⟩⟩
  refine ⟨L, M, vs, v2, rfl, rfl, upNew nM (s2 _ _ e1), upd_same, by rw [DqAll.len h1, DqAll.len h2]; exact small6 (by omega), fun N nN => ?_⟩
  have sM := sameNew (o := .lst v2) nM
  have sN := sameNew (o := .lst (vs ++ v2)) nN
  have s1N := (s2.trans sM).trans sN
  have hN := occ_ne (occ (occ hoc s2) sM) nN
  exact hq _ N _ s1N upd_same hN.1 hN.2 ((h1.lasts (.of s1N)).app (h2.lasts (.of (sM.trans sN))))
/-! how large, by looking -/
mutual
def fitB (M L : Nat) : PyData → Bool
  | .none => true
  | .bool _ => true
  | .int i => decide (i.natAbs ≤ M)
  | .str x => decide ((reprText x).length ≤ L)
  | .list xs => fitAllB M L xs
  | .tuple xs => fitAllB M L xs
  | .dict kvs => decide ((PyData.shown (.dict kvs)).length ≤ 40) && PyData.showable (.dict kvs)
def fitAllB (M L : Nat) : List PyData → Bool
  | [] => true
  | x :: xs => fitB M L x && fitAllB M L xs
end
end Pv

namespace Pv
open PySem PySem.Spec PyProof.Rows L2
section
variable {K : PySem.W.Frag} {H : Hp} {a b : Addr} {xs ys : List V} {Q : VK}
/-! slices and sums of tuples, whichever object comes back -/
theorem take_eq (hP : SqT K H a xs) (n : Nat) (h : ∀ (H' : Hp) (b : Addr), Same H H' → SqT K H' b (xs.take n) → Q (.ref b) H') : rSlA K (.ref a) none (some (n : Int)) H Q := by
  have hcut : cutV xs none (some (n : Int)) = xs.take n := cut_to _ n
  refine ⟨a, _, rfl, hP, fun hw => ?_, fun _ p np => ?_⟩
  · refine h H a (Same.refl _) ?_
    have e : xs.take n = xs := by
      rw [← hcut]
      unfold cutV
      rw [hw.1, hw.2, List.drop_zero, Nat.sub_zero, List.take_length]
    rw [e]; exact hP
  · refine h _ p (sameNew np) (SqT.of ?_)
    rw [upd_same, hcut]
theorem cut_tail (xs : List V) (n : Nat) : cutV xs (some (n : Int)) none = xs.drop n := by
  unfold cutV
  rw [HT.sIx_nat, HT.sIx_none]
  by_cases h : n ≤ xs.length
  · rw [Nat.min_eq_left h, List.take_of_length_le (by rw [List.length_drop]; exact Nat.le_refl _)]
  · rw [Nat.min_eq_right (by omega), List.drop_eq_nil_of_le (Nat.le_refl _), List.drop_eq_nil_of_le (by omega)]; simp
theorem drop_eq (hP : SqT K H a xs) (n : Nat) (h : ∀ (H' : Hp) (b : Addr), Same H H' → SqT K H' b (xs.drop n) → Q (.ref b) H') : rSlA K (.ref a) (some (n : Int)) none H Q := by
  have hcut := cut_tail xs n
  refine ⟨a, _, rfl, hP, fun hw => ?_, fun _ p np => ?_⟩
  · refine h H a (Same.refl _) ?_
    have e : xs.drop n = xs := by
      rw [← hcut]
      unfold cutV
      rw [hw.1, hw.2, List.drop_zero, Nat.sub_zero, List.take_length]
    rw [e]; exact hP
  · refine h _ p (sameNew np) (SqT.of ?_)
    rw [upd_same, hcut]
theorem cat_eq (ha : SqT K H a xs) (hb : SqT K H b ys) (hz : xs.length + ys.length ≤ sizeLine) (h : ∀ (H' : Hp) (p : Addr), Same H H' → SqT K H' p (xs ++ ys) → Q (.ref p) H') : rCatA K (.ref a) (.ref b) H Q := by
  refine ⟨a, b, xs, ys, rfl, rfl, ha, hb, hz, fun e => ?_, fun _ e => ?_, fun _ _ p np => ?_⟩
  · subst e; exact h H b (Same.refl _) (by simpa using hb)
  · subst e; exact h H a (Same.refl _) (by simpa using ha)
  · exact h _ p (sameNew np) (SqT.of upd_same)
end
/-! the greatest of a tuple of ints -/
def rMaxT (K : PySem.W.Frag) : RC := fun xs H Q => ∃ (a : Addr) (ns : List Int), xs = [.ref a] ∧ SqT K H a (ns.map V.int) ∧ 0 < ns.length ∧ ∀ m, m ∈ ns → (∀ y ∈ ns, y ≤ m) → Q (.int m) H
theorem call_maxT {X : Cx} (hc : X.calm = true) : CallR X (.builtin "max") (rMaxT X.K) := by
  intro pins s σ H xs us Q I r h
  obtain ⟨a, ns, rfl, hT, hne, q⟩ := h
  obtain ⟨u, rfl, rfl⟩ := vals1 r
  obtain ⟨its, rv, ht, hz⟩ := I.tuple hT
  have hi : IntsAre its ns := rv.ints
  obtain ⟨ys, e⟩ := hi.allInts.items
  have hn : numsOf (intItems ys).toList = ns := by rw [← e]; exact hi.numsOf
  rw [nums_intItems] at hn
  rw [e] at ht
  subst hn
  have hsz : 0 < ys.size := by simpa using hne
  have ht' : s.heap.IsTuple a (intItems ys) := ht
  have hlt : a < s.heap.objs.size := by obtain ⟨_, z, _⟩ := ht; exact Heap.lt_size z
  refine call_max_walk (wpAny_pyIter_tuple ht' ?_)
  refine ⟨_, _, _, _, _, _, _, rfl, Walks.tuple (A := X.A.in1) (I.ok.hd hc) _ a (Nat.ne_of_lt hlt) (intItems ys), ⟨⟨_, Heap.get?_push_size _ rfl, rfl, rfl⟩, ht'.push _⟩, ?_, by simpa [intItems] using hsz, CmpOf.ints_gt (numAt ys) (fun _ _ => intItems_at), ?_⟩
  · intro b hb
    show b < (s.heap.push _).objs.size
    rw [Heap.size_push]
    simp only [List.mem_cons, List.not_mem_nil, or_false] at hb
    rcases hb with rfl | rfl
    · exact Nat.lt_succ_self _
    · exact Nat.lt_succ_of_lt hlt
  · intro v h' tk hP hk
    have hP' : (intItems ys)[argBest (fun i j => decide (numAt ys i > numAt ys j)) (ys.size - 1)]? = some v := by simpa [intItems] using hP
    obtain ⟨t, rfl⟩ := intItems_at hP'
    obtain ⟨h1, h2⟩ := argBest_gt (numAt ys) (ys.size - 1)
    refine ⟨.int _, H, I.kept (t' := tk) (h' := h') ?_, ⟨_, rfl⟩, q _ ?_ ?_⟩
    · intro b o eb
      refine hk b o (fun hm => ?_) (Heap.get?_push_of_some _ eb)
      exact absurd (Heap.lt_size eb) ((List.mem_singleton.mp hm) ▸ Nat.lt_irrefl _)
    · rw [numAt_eq]; exact PySem.getD_mem (by rw [List.length_map, Array.length_toList]; omega)
    · intro y hy
      obtain ⟨j, hj, rfl⟩ := mem_getD hy
      rw [List.length_map, Array.length_toList] at hj
      rw [← numAt_eq]; exact h2 j (by omega)
end Pv

namespace Pv
open PySem PySem.Spec PyProof.Rows L2
/-! groups whose lists are tuples of the heap itself -/
inductive PtAll (H : Hp) : List V → List Gp → Prop
  | nil : PtAll H [] []
  | cons {a p : Addr} {vs : List V} {g : Gp} {gs : List Gp} : H a = some (.tup [.ref p, .int g.2]) → H p = some (.tup (g.1.map V.int)) → PtAll H vs gs → PtAll H (.ref a :: vs) (g :: gs)
section
variable {K : PySem.W.Frag} {H H' : Hp}
theorem PtAll.tk (s : TupK H H') : ∀ {vs : List V} {gs : List Gp}, PtAll H vs gs → PtAll H' vs gs
  | _, _, .nil => .nil
  | _, _, .cons h1 h2 t => .cons ((s _ _).1 h1) ((s _ _).1 h2) (PtAll.tk s t)
theorem PtAll.dp : ∀ {vs : List V} {gs : List Gp}, PtAll H vs gs → DpAll K H vs (gs.map dGrp)
  | _, _, .nil => .nil
  | _, _, .cons h1 h2 t => .cons (.tup (SqT.of h1) (.cons (dI_sq (SqT.of h2)) (.cons (.int _) .nil))) (PtAll.dp t)
theorem PtAll.len : ∀ {vs : List V} {gs : List Gp}, PtAll H vs gs → vs.length = gs.length
  | _, _, .nil => rfl
  | _, _, .cons _ _ t => by simp [PtAll.len t]
theorem PtAll.app : ∀ {vs ws : List V} {gs hs : List Gp}, PtAll H vs gs → PtAll H ws hs → PtAll H (vs ++ ws) (gs ++ hs)
  | _, _, _, _, .nil, h => h
  | _, _, _, _, .cons h1 h2 t, h => .cons h1 h2 (PtAll.app t h)
theorem PtAll.take : ∀ {vs : List V} {gs : List Gp} (n : Nat), PtAll H vs gs → PtAll H (vs.take n) (gs.take n)
  | _, _, 0, _ => .nil
  | _, _, n + 1, .nil => .nil
  | _, _, n + 1, .cons h1 h2 t => .cons h1 h2 (PtAll.take n t)
theorem PtAll.drop : ∀ {vs : List V} {gs : List Gp} (n : Nat), PtAll H vs gs → PtAll H (vs.drop n) (gs.drop n)
  | _, _, 0, h => h
  | _, _, n + 1, .nil => .nil
  | _, _, n + 1, .cons _ _ t => PtAll.drop n t
theorem PtAll.at : ∀ {vs : List V} {gs : List Gp} {i : Nat} {g : Gp}, PtAll H vs gs → gs[i]? = some g → ∃ a p, vs[i]? = some (.ref a) ∧ H a = some (.tup [.ref p, .int g.2]) ∧ H p = some (.tup (g.1.map V.int))
  | _, _, _, _, .nil, e => by simp at e
  | _, _, 0, _, .cons h1 h2 _, e => by simp at e; subst e; exact ⟨_, _, rfl, h1, h2⟩
  | _, _, i + 1, _, .cons _ _ t, e => by
    obtain ⟨a, p, h⟩ := PtAll.at t (by simpa using e)
    exact ⟨a, p, by simpa using h⟩
theorem PtAll.reps : ∀ {vs : List V} {gs : List Gp} (n : Nat), PtAll H vs gs → PtAll H (List.replicate n vs).flatten (List.replicate n gs).flatten
  | _, _, 0, _ => .nil
  | _, _, n + 1, h => by
    rw [List.replicate_succ, List.replicate_succ, List.flatten_cons, List.flatten_cons]
    exact PtAll.app h (PtAll.reps n h)
/-- an instance whose groups are so -/
def InsT (K : PySem.W.Frag) (H : Hp) (i : Addr) (cs : List Int) (gs : List Gp) : Prop :=
  ∃ ca ga xs, SqT K H i [.ref ca, .ref ga] ∧ SqT K H ca (cs.map V.int) ∧ SqT K H ga xs ∧ PtAll H xs gs
theorem InsT.dp {i : Addr} {cs : List Int} {gs : List Gp} (h : InsT K H i cs gs) : Dp K H (.ref i) (dInst cs gs) := by
  obtain ⟨ca, ga, xs, h1, h2, h3, h4⟩ := h
  exact .tup h1 (.cons (dI_sq h2) (.cons (.tup h3 h4.dp) .nil))
theorem InsT.tk {i : Addr} {cs : List Int} {gs : List Gp} (h : InsT K H i cs gs) (s : TupK H H') : InsT K H' i cs gs := by
  obtain ⟨ca, ga, xs, h1, h2, h3, h4⟩ := h
  exact ⟨ca, ga, xs, s.sq h1, s.sq h2, s.sq h3, h4.tk s⟩
end
end Pv

set_option maxHeartbeats 1000000
namespace DT
open PySem PySem.W PySem.Calls PyProof.Rows PyProof.V PySem.Spec
/-! tuple(d.items()) -/
section
variable {prog : Program} {w : World} {A : Around} {E : Value → Shared → Prop} {s : Shared} {r d : Addr} {es : Array DictEntry} {ep : Nat}
theorem code_tuple_new_items {Q₁ : Value → Shared → Prop} (hh : A.handled = none) (hv : s.heap.IsItemsView r d) (hm : Raw s.heap d es ep) (hn : es.size ≤ sizeLine)
    (h : ∀ (h' : Heap) (tk : Nat) (as : List Addr), (∀ b o, s.heap.get? b = some o → h'.get? b = some o) → s.heap.objs.size < h'.objs.size → as.length = es.size → Made es s.heap.objs.size h' as →
      Q₁ (.ref h'.objs.size) { s with heap := h'.push { cls := .type "tuple", data := .seq (as.map Value.ref).toArray }, toks := tk }) :
    codeAny (model prog w) A (.call (.builtin "tuple.__new__") ⟨[.type "tuple", .ref r], []⟩) (wants Q₁ E) s := by
  refine codeAny_of_tree ?_
  show wpAny _ A.in1 (do checkBuiltinCall "tuple.__new__" ⟨[.type "tuple", .ref r], []⟩; again (.builtin "tuple.__new__" ⟨[.type "tuple", .ref r], []⟩)) _ _ s
  refine wpAny_bind (wpAny_of_eq (F.newCall_tuple_1 _) (wpAny_pure ⟨plainId_quiet F.plain_tuple_new _, codeAny_builtin F.entry_tuple_new ?_⟩))
  rw [Around.under_plainId F.plain_tuple_new _]
  have hsub := sub_tuple_self
  have hinit := init_tuple_lookup
  have hmh := madeHere_tuple
  have hTI : s.TypeIs (.ref r) "dict_items" := hv.typeIs
  have hh1 : A.in1.handled = none := hh
  wp_walk using wpAny_typeOf hTI, collectI (A := A.in1) hh1 hv hm hn
  intro h' tk as hk hlt hl hG
  show wpAny _ _ (Builtin.Tuple.tupleExact (as.map Value.ref).toArray >>= fun v => ret v) _ _ _
  unfold Builtin.Tuple.tupleExact
  refine wpAny_bind (wpAny_newObj_type ?_ (by show (as.map Value.ref).toArray.size ≤ sizeLine; rw [List.size_toArray, List.length_map, hl]; exact hn))
  refine wpAny_pure ?_
  exact h h' tk as hk hlt hl hG
theorem call_tuple_items {Q : Value → Shared → Prop} (hh : A.handled = none) (hv : s.heap.IsItemsView r d) (hm : Raw s.heap d es ep) (hn : es.size ≤ sizeLine)
    (h : ∀ (h' : Heap) (tk : Nat) (as : List Addr), (∀ b o, s.heap.get? b = some o → h'.get? b = some o) → s.heap.objs.size < h'.objs.size → as.length = es.size → Made es s.heap.objs.size h' as →
      Q (.ref h'.objs.size) { s with heap := h'.push { cls := .type "tuple", data := .seq (as.map Value.ref).toArray }, toks := tk }) :
    wpAny (model prog w) A (call (.type "tuple") [.ref r]) Q E s := by
  refine callType_codes (Q₁ := fun obj s₁ => s₁.TypeIs obj "tuple" ∧ Q obj s₁) F.called_tuple (F.typeCall_tuple_1 _) F.entry_object_init
    (code_tuple_new_items (A := A.in1) hh hv hm hn fun h' tk as hk hlt hl hG => ⟨⟨_, Heap.get?_push_size _ rfl, rfl⟩, h h' tk as hk hlt hl hG⟩) fun obj s₁ h₁ => ?_
  exact ⟨h₁.1, F.args_object_init_2 obj _, object_init_meets F.called_tuple.init.lookup F.called_tuple.made (by decide) prog w A.in1 _ s₁ ⟨h₁.1, rfl, h₁.2⟩⟩
end
end DT
namespace Pv
open PySem PySem.Spec PyProof.Rows L2 L2.DX
def rTupIt : RC := fun vs H Q => ∃ (p a : Addr) (kvs : List (List L2.Key × V)), vs = [.ref p] ∧ H p = some (itemsO p a) ∧ H a = some (.dT kvs) ∧
  ∀ (H' : Hp) (l : Addr) (as : List Addr), Same H H' → as.length = kvs.length → H' l = some (.tup (as.map V.ref)) →
    (∀ (j : Nat) (b : Addr) (kv : List L2.Key × V), as[j]? = some b → kvs[j]? = some kv → ∃ q, H' b = some (.tup [.ref q, kv.2]) ∧ H' q = some (.tup (kv.1.map kV))) → Q (.ref l) H'
theorem call_tupIt {X : Cx} (hc : X.calm = true) : CallR X (.type "tuple") rTupIt := by
  intro pins s σ H xs us Q I r h
  obtain ⟨p, a, kvs, rfl, hp, ha, q⟩ := h
  obtain rfl := Vals.ref1 r
  have view : s.heap.IsItemsView p a := (show ObjOk X.prog X.w H s.heap p (itemsO p a) from I.hok p _ hp).1
  obtain ⟨z, hd, xs', rel, o, es, ep, ho, hx, hdat, hes, his, hn⟩ := dt_of I.hok ha
  have l1 : kvs.length = xs'.length := Paired.length rel
  have l2 : es.size = xs'.length := size_of_entries hes
  have hh : X.A.handled = none := I.ok.hd hc
  refine DT.call_tuple_items (es := es) (ep := ep) hh view ⟨o, ho, hx, hdat⟩ (by omega) fun h' tk as hk hlt hl hG => ?_
  have lak : as.length = kvs.length := by omega
  have nd : as.Nodup := List.Pairwise.imp (fun h => Nat.ne_of_lt h) hG.rise
  have pr : ∀ (j : Nat) (b : Addr), as[j]? = some b → ∃ (e : List L2.Key × V) (kq : Addr) (u : Value), kvs[j]? = some e ∧ H kq = some (.tup (e.1.map kV)) ∧ RelV e.2 u ∧ h'.get? b = some { cls := .type "tuple", data := .seq #[Value.ref kq, u] } := by
    intro j b hj
    obtain ⟨en, he, hg⟩ := hG.pairs j b hj
    rw [entry_at hes j] at he
    cases hxj : xs'[j]? with
    | none =>
      rw [hxj] at he
      exact nomatch (show (none : Option DictEntry) = some en from he)
    | some x =>
      rw [hxj] at he
      have een : entryOfKey (tupleKind (mixKind X.prog X.w)) x = en := Option.some.inj he
      obtain ⟨e0, he0, r1, r2, r3⟩ := pget rel hxj
      refine ⟨e0, x.2.1, x.2.2, he0, r2, r3, ?_⟩
      rw [hg, ← een]
      all_goals rfl
  have kS : ∀ b o, s.heap.get? b = some o → (h'.push { cls := .type "tuple", data := .seq (as.map Value.ref).toArray }).get? b = some o := fun b o e => Heap.get?_push_of_some _ (hk b o e)
  have I1 : Inv X pins σ H { s with heap := h'.push { cls := .type "tuple", data := .seq (as.map Value.ref).toArray }, toks := tk } := I.kept (t' := tk) kS
  have hn0 : H h'.objs.size = none := I.hok.fresh (Nat.le_of_lt hlt)
  have rv : Vals (as.map V.ref) (as.map Value.ref) := vals_maps (fun z : Addr => V.ref z) (fun z => Value.ref z) as fun _ _ => rfl
  have I2 : Inv X pins σ (upd H h'.objs.size (.tup (as.map V.ref))) { s with heap := h'.push { cls := .type "tuple", data := .seq (as.map Value.ref).toArray }, toks := tk } :=
    I1.take (h' := h'.push { cls := .type "tuple", data := .seq (as.map Value.ref).toArray }) (t' := tk) (fun b ob _ e => e) (I.fpOk (Nat.le_of_lt hlt) hn0) ⟨by rw [List.length_map]; omega, as.map Value.ref, rv, IsTup.new _ _⟩
  obtain ⟨H2, I3, g, qt⟩ := takeT (P := fun b vs => ∃ (j : Nat) (e : List L2.Key × V) (kq : Addr), as[j]? = some b ∧ kvs[j]? = some e ∧ vs = [.ref kq, e.2] ∧ H kq = some (.tup (e.1.map kV))) I as _ I2 nd fun b hb => by
    obtain ⟨j, hj⟩ := List.mem_iff_getElem?.mp hb
    obtain ⟨e, kq, u, he, hkq, hu, hg⟩ := pr j b hj
    have hbl : s.heap.objs.size ≤ b := Nat.le_of_lt (hG.above b hb)
    refine ⟨hbl, ?_, [.ref kq, e.2], ⟨j, e, kq, hj, he, rfl, hkq⟩, fun H3 => ⟨(by rw [sizeLine_eq]; show 2 ≤ 16777216; omega), [Value.ref kq, u], .cons rfl (.cons hu .nil), ⟨_, Heap.get?_push_of_some _ hg, rfl, 0, rfl⟩⟩⟩
    rw [upd_ne (Nat.ne_of_lt (Heap.lt_size hg))]
    exact I.hok.fresh hbl
  have gr : ∀ b o, H b = some o → H2 b = some o := fun b o e => g b o (by rw [upd_ne (ne_of_none e hn0)]; exact e)
  refine ⟨.ref h'.objs.size, H2, I3, rfl, q H2 h'.objs.size as gr lak (g _ _ upd_same) fun j b kv hj hkv => ?_⟩
  obtain ⟨vs, ⟨i, e, kq, i1, i2, ev, hkq⟩, hH⟩ := qt b (List.mem_of_getElem? hj)
  have eij : j = i := (List.getElem?_inj (List.getElem?_eq_some_iff.mp hj).1 nd).mp (hj.trans i1.symm)
  subst eij
  have ee : e = kv := Option.some.inj (i2.symm.trans hkv)
  rw [ev, ee] at hH
  rw [ee] at hkq
  exact ⟨kq, hH, gr _ _ hkq⟩
end Pv

namespace Pv
open PySem PySem.Spec PyProof.Rows L2
/-! errors of the program's own classes -/
abbrev VEbm : List Value := [.type "ValueError", .type "Exception", .type "BaseException", .type "object"]
theorem pmk_own0 {X : Cx} {C : Addr} {bmB : List Value} {B newId initId : String} {x : Str} {p pos : Pos} (F : ExcBaseFacts B newId initId bmB) (q : PySem.W.excIn X.K C bmB newId = true) (gC : X.mg x = some (.ref C))
    (kC : PySem.W.keepIn X.K (.ref C) = true) (r : Raises X (.ref C)) (hg : Gl X x) (hdb : (x == ("__debug__" : Str)) = false := by decide) :
    PMk X (.Call (.Name x p) [] [] pos) (fun _ H Q => Q (.ref C) none H) := by
  intro pins s σ H Q I h
  refine wpAny_Call_Name_kw (ld_glob I hg gC ?_ hdb)
  refine PySem.W.callWith_K0 I.kIn kC ?_
  obtain ⟨bm, N, nm, qn, bs, hdct, sn, sub, ab, col, dd, k0, k1, k2, k3, k5, mN, hC, hN, hni, T⟩ := exc_obj I.kIn q
  show wpAny _ _ (call (.ref C) []) _ _ _
  refine wpAny_call_exc_subT F T hC hN hni (fun h' e hm => ?_) (Nat.zero_le _)
  exact mk_of I hm r h (I.hok.gone hm.new)
/-- what is asked of a class whose errors isinstance is asked of -/
structure IsC (K : PySem.W.Frag) (D : Addr) : Prop where
  cl : (PySem.W.clsIn K D).isSome = true
  hg : PySem.W.findIn K (.ref D) "__getattribute__" = some (some (.builtin "BaseException.__getattribute__"))
  hk : PySem.W.findIn K (.ref D) "__getattr__" = some none
  hs : PySem.W.subIn K (.ref D) (.type "BaseException") = some true
  ty : PySem.W.typeIn K (.ref D) = some (.type "type")
  ha : PySem.W.findIn K (.ref D) "__class__" = some (some (.builtin "object.__class__"))
  hn : PySem.W.specialIn K (.builtin "object.__class__") "__get__" = some (some (.builtin "getset_descriptor.__get__"))
  ht : PySem.W.takesIn K (.builtin "object.__class__") = some true
  hm : PySem.W.mroIn K D (.type "object") = some true
  kp : PySem.W.keepIn K (.ref D) = true
def isCB (K : PySem.W.Frag) (D : Addr) : Bool :=
  (PySem.W.clsIn K D).isSome && (decide (PySem.W.findIn K (.ref D) "__getattribute__" = some (some (.builtin "BaseException.__getattribute__"))) && (decide (PySem.W.findIn K (.ref D) "__getattr__" = some none) &&
  (decide (PySem.W.subIn K (.ref D) (.type "BaseException") = some true) && (decide (PySem.W.typeIn K (.ref D) = some (.type "type")) && (decide (PySem.W.findIn K (.ref D) "__class__" = some (some (.builtin "object.__class__"))) &&
  (decide (PySem.W.specialIn K (.builtin "object.__class__") "__get__" = some (some (.builtin "getset_descriptor.__get__"))) && (decide (PySem.W.takesIn K (.builtin "object.__class__") = some true) &&
  (decide (PySem.W.mroIn K D (.type "object") = some true) && PySem.W.keepIn K (.ref D)))))))))
theorem isCB_ok {K : PySem.W.Frag} {D : Addr} (h : isCB K D = true) : IsC K D := by
  simp only [isCB, Bool.and_eq_true, decide_eq_true_eq] at h
  obtain ⟨h1, h2, h3, h4, h5, h6, h7, h8, h9, h10⟩ := h
  exact ⟨h1, h2, h3, h4, h5, h6, h7, h8, h9, h10⟩
theorem IsC.raises {X : Cx} {D : Addr} (c : IsC X.K D) : Raises X (.ref D) := raises_own c.hs c.ty
/-- isinstance(e, c), e the error that the suite holds, c a class or a tuple of classes -/
def rIsX (K : PySem.W.Frag) (a : Addr) (cls : Value) (d : Option Addr) : RC := fun xs H Q => ∃ (D : Addr) (c : V) (b : Bool), cls = .ref D ∧ IsC K D ∧ (∀ dx, d = some dx → ∃ fs, H dx = some (.xd fs)) ∧ xs = [.ref a, c] ∧
  ((∃ u, ClsV c u ∧ PySem.W.kitOne K (.ref D) u = some b) ∨ ∃ (tp : Addr) (cs : List V) (us : List Value), c = .ref tp ∧ H tp = some (.tup cs) ∧ Paired ClsV cs us ∧ PySem.W.kitAny K (.ref D) us = some b) ∧ Q (.bl b) H
theorem call_isX {X : Cx} {a : Addr} {oe : Obj} {cls : Value} {d : Option Addr} {pn : List (Addr × Obj)} (hz : Zc cls d oe) (hf : ∃ vs, oe.data = .fields vs) : CallR (X.suite a ((a, oe) :: pn)) (.builtin "isinstance") (rIsX X.K a cls d) := by
  intro pins s σ H xs us Q I r h
  obtain ⟨D, c, b, rfl, C, hdx, rfl, hc, q⟩ := h
  obtain ⟨u1, u2, rfl, r1, r2⟩ := vals2 r
  cases (show u1 = Value.ref a from r1)
  obtain ⟨hget, _⟩ := I.pin (a, oe) (List.mem_append.mpr (.inl List.mem_cons_self))
  obtain ⟨vs, hv⟩ := hf
  have J : ∃ od, PySem.W.InstAt s.heap a oe D od := by
    cases d with
    | none =>
      refine ⟨none, hget, hz.1, by unfold PySem.W.notCls; rw [hv] <;> rfl, ?_⟩
      rw [hz.2]; trivial
    | some dx =>
      obtain ⟨fs, e⟩ := hdx dx rfl
      have hx : ObjOk X.prog X.w H s.heap dx (.xd fs) := I.hok dx _ e
      obtain ⟨mA, hns, _⟩ := hx
      obtain ⟨od, ho, _⟩ := lookIn_ns hns
      exact ⟨some od, hget, hz.1, by unfold PySem.W.notCls; rw [hv] <;> rfl, by rw [hz.2]; exact ho⟩
  obtain ⟨od, J⟩ := J
  have Z := PySem.W.kitx_exc (K := X.K) (x := a) (C := D) (ox := oe) (od := od) C.cl C.hg C.hk C.hs C.ha C.hn C.ht C.hm
  rcases hc with ⟨u, ku, e⟩ | ⟨tp, cs, ws, rfl, hT, ks, e⟩
  · have e2 := ku.eq r2
    subst e2
    exact PySem.W.kia_one Z I.kIn J e (fun z => nomatch z) fun tk => ⟨.bl b, H, I.kept (t' := tk) fun _ _ z => z, rfl, q⟩
  · cases (show u2 = Value.ref tp from r2)
    obtain ⟨_, its, rv, o, h1, h2, n, h3⟩ := (show ObjOk X.prog X.w H s.heap tp (.tup cs) from I.hok tp _ hT)
    have e3 := ClsV.all ks rv
    subst e3
    obtain ⟨oc, od', dt, sl⟩ := o
    simp only at h2 h3
    subst h2 h3
    exact PySem.W.kia_tup Z I.kIn J h1 e (fun z => nomatch z) fun tk => ⟨.bl b, H, I.kept (t' := tk) fun _ _ z => z, rfl, q⟩
end Pv

namespace Pv
open PySem PySem.Spec PyProof.Rows L2
/-! an error with one field of its own -/
def inCls (st : Stmt) (i : Nat) : Stmt := match st with
  | .ClassDef _ _ _ body _ _ _ _ _ _ _ => body.getD i (.Pass ⟨0, 0, 0, 0⟩)
  | _ => .Pass ⟨0, 0, 0, 0⟩
def spI1 (C : Addr) (fld : Str) : Sp := fun vs H Q _ => ∃ (a : Addr) (v : V), vs = [.ref a, v] ∧ H a = some (exo a C none) ∧ ∀ dx, H dx = none → dx ≠ a → Q .non (upd (upd H dx (exd dx [(fld, v)])) a (exo a C (some dx)))
theorem mkO1 {C : Addr} {fld : Str} {v : V} {H1 : Hp} {Q : XK} (h : ∀ d, H1 d = none → Q (.ref C) (some d) (upd H1 d (.xd [(fld, v)]))) :
    [v].length ≤ 1000 ∧ ∀ a, H1 a = none → spI1 C fld (.ref a :: ([v] ++ [])) (upd H1 a (exo a C none))
      (fun v' H2 => v' = .non ∧ ∃ (d : Addr) (fs : List (Str × V)), H2 a = some (exo a C (some d)) ∧ H2 d = some (exd d fs) ∧ H1 d = none ∧ Q (.ref C) (some d) (upd (del H2 a) d (.xd fs))) (fun _ _ _ => False) := by
  refine ⟨by simp, fun a na => ⟨a, v, rfl, upd_same, fun dx nd ne => ⟨rfl, dx, [(fld, v)], upd_same, ?_, ?_, ?_⟩⟩⟩
  · rw [upd_ne ne]; exact upd_same
  · rw [upd_ne ne] at nd; exact nd
  · have nd1 : H1 dx = none := by rw [upd_ne ne] at nd; exact nd
    have e : upd (del (upd (upd (upd H1 a (exo a C none)) dx (exd dx [(fld, v)])) a (exo a C (some dx))) a) dx (.xd [(fld, v)]) = upd H1 dx (.xd [(fld, v)]) := by
      funext b
      by_cases hb : b = dx
      · rw [hb, upd_same, upd_same]
      · rw [upd_ne hb, upd_ne hb]
        by_cases ha : b = a
        · rw [ha, del_same, na]
        · rw [del_ne ha, upd_ne ha, upd_ne hb, upd_ne ha]
    rw [e]
    exact h dx nd1
/-- what the written part says of such a class -/
structure XF (K : PySem.W.Frag) (C fI : Addr) (fld : Str) : Prop where
  T : OexC K C
  iC : PySem.W.findIn K (.ref C) "__init__" = some (some (.ref fI))
  tI : PySem.W.typeIn K (.ref fI) = some (.type "function")
  no : PySem.W.findIn K (.ref C) fld = some none
  rd : XfC K C
def xf1B (K : PySem.W.Frag) (C fI : Addr) (fld : Str) : Bool :=
  decide (PySem.W.findIn K (.ref C) "__setattr__" = some (some (.builtin "object.__setattr__"))) && (decide (PySem.W.subIn K (.ref C) (.type "BaseException") = some true) && (decide (PySem.W.typeIn K (.ref C) = some (.type "type")) && (PySem.W.keepIn K (.ref C) &&
  (decide (PySem.W.findIn K (.ref C) "__init__" = some (some (.ref fI))) && (decide (PySem.W.typeIn K (.ref fI) = some (.type "function")) && (decide (PySem.W.findIn K (.ref C) fld = some none) && xfB K C))))))
theorem xf1B_ok {K : PySem.W.Frag} {C fI : Addr} {fld : Str} (h : xf1B K C fI fld = true) (c : ∃ nm q N bs bm sn sub ab col dd k0 k1 k2 k3 k5, K.lookup C = some (excClassObj nm q C N bs bm true sn sub ab col dd k0 k1 k2 k3 k5 "ValueError.__new__") ∧ PySem.HandSPX.refsVE bm = true) : XF K C fI fld := by
  simp only [xf1B, Bool.and_eq_true, decide_eq_true_eq] at h
  obtain ⟨h1, h2, h3, h4, h5, h6, h7, h8⟩ := h
  exact ⟨⟨c, h1, h2, h3, h4⟩, h5, h6, h7, xfB_ok h8⟩
end Pv

namespace Pv
open PySem PySem.Spec PyProof.Rows L2
/-! the same for a class right under LookupError -/
abbrev LEbm : List Value := [.type "LookupError", .type "Exception", .type "BaseException", .type "object"]
structure OeL (K : PySem.W.Frag) (C : Addr) : Prop where
  cls : ∃ nm q N bs sn sub ab col dd k0 k1 k2 k3 k5, K.lookup C = some (excClassObj nm q C N bs LEbm true sn sub ab col dd k0 k1 k2 k3 k5 "LookupError.__new__")
  sa : PySem.W.findIn K (.ref C) "__setattr__" = some (some (.builtin "object.__setattr__"))
  exC : PySem.W.subIn K (.ref C) (.type "BaseException") = some true
  tyC : PySem.W.typeIn K (.ref C) = some (.type "type")
  kC : PySem.W.keepIn K (.ref C) = true
section
open PySem.HandSPX Builtin Builtin.ObjectAttr
variable {prog : Program} {w : World} {A : Around} {R : Result → Shared → Prop} {hp : Heap} {g : Array GenState} {d : Drawn} {t : Nat} {os : OsState}
theorem le_loop (self : Value) (c : Addr) : refuseLoop self "__setattr__" (.ref c :: LEbm) = pure () := (refuseLoop_ref ..).trans (PySem.F.store_LookupError.passes self)
/-- the first field is stored: a dict is laid, and nothing else is touched -/
theorem le_store {K : PySem.W.Frag} {fld : Str} {tk : Tok} {v : Value} {x C : Addr} {fv : Array Value} {cd : ClassData} (X : K.In hp) (hx : hp.get? x = some { cls := .ref C, data := .fields fv }) (hcd : PySem.W.clsIn K C = some cd)
    (hm : cd.mro = .ref C :: LEbm) (hh : cd.hasDict = true) (ha : PySem.W.findIn K (.ref C) fld = some none)
    (fin : ∀ h' tk' dx, (∀ b o, b ≠ x → hp.get? b = some o → h'.get? b = some o) → hp.objs.size ≤ dx → dx ≠ x → h'.get? x = some { cls := .ref C, dict := some dx, data := .fields fv } →
      h'.Ns1 dx (fun y => if y = fld then some v else none) → R (.ok (.ret .none)) ⟨h', g, d, tk', os⟩) :
    codeAny (model prog w) A (.call (.builtin "object.__setattr__") ⟨[.ref x, .str fld tk, v], []⟩) R ⟨hp, g, d, t, os⟩ := by
  have at_x : PySem.W.InstAt hp x { cls := .ref C, data := .fields fv } C none := ⟨hx, rfl, rfl, trivial⟩
  have far : x ≠ hp.objs.size := Nat.ne_of_lt (Heap.lt_size hx)
  have obj : PySem.W.mroIn K C (.type "object") = some true := by
    unfold PySem.W.mroIn
    rw [hcd, Option.bind_some, hm]
    rfl
  have isObj : PySem.W.Looks (model prog w) hp (isInstance (.ref x) (.type "object")) true := at_x.type.andThen (PySem.W.looks_mroIn X obj)
  have facts := PySem.F.store_object
  refine codeAny_call_builtin facts.slot.plain facts.entry (@PySem.W.check_slot (model prog w) _ _ ⟨hp, g, d, t, os⟩ "object.__setattr__" "object" "__setattr__" (.ref x) [.str fld tk, v] [] _ facts.kind facts.split isObj (facts.args (.ref x) (.str fld tk) v) ?_)
  have mros : PySem.W.Looks (model prog w) hp (mroOf (.ref C)) cd.mro := (PySem.W.looks_clsIn X hcd).andThen .now
  have data : PySem.W.Looks (model prog w) hp (classData C) cd := PySem.W.looks_clsIn X hcd
  have taker : PySem.W.Looks (model prog w) hp (storeTaker? none) none := .now
  rw [PySem.W.osa_eq, refuse_eq]
  refine wpAny_bind (wpAny_bind (at_x.type.at (wpAny_bind (mros.at ?_))))
  rw [hm, le_loop]
  refine wpAny_pure (wpAny_bind (at_x.type.at (wpAny_bind ((PySem.W.looks_findIn X ha).at (wpAny_bind (taker.at ?_))))))
  show wpAny _ _ (storeInOwnDict (.ref x) (.ref C) (.str fld tk) fld v false) _ _ _
  obtain ⟨nm, bs, mro, ns, qn, hd, sn, sb, ab, col, del⟩ := cd
  dsimp only at hh
  subst hh
  unfold storeInOwnDict ownDictForStores
  repeat (first | with_reducible refine PySem.HandSPX.store_in_new ?_ ?_ | with_reducible refine wpAny_loadPart_at hx ?_ | with_reducible refine data.at ?_ | wp_step)
  · exact ⟨_, #[], _, (Heap.get?_update_ne _ _ _ _ far.symm).trans (Heap.get?_push_at rfl rfl), rfl, fun e he => absurd he (by simp), fun _ => rfl⟩
  · intro h' tk' hn' hs
    have old : (hp.push { cls := .type "dict", data := .dict #[] }).get? x = some { cls := .ref C, data := .fields fv } := Heap.get?_push_of_some _ hx
    refine fin h' tk' hp.objs.size (fun b o hb ho => ?_) (Nat.le_refl _) far.symm ?_ hn'
    · rw [hs.2 b (Nat.ne_of_lt (Heap.lt_size ho)), Heap.get?_update_ne _ _ _ _ hb]
      exact Heap.get?_push_of_some _ ho
    · rw [hs.2 x far]
      exact Heap.get?_update_self _ old rfl
end
section
variable {X : Cx} {pins : List (Addr × Obj)} {σ : L2.St} {H : Hp} {s : Shared} {a C : Addr} {f : Str} {y : V} {u : Value} {Q : Unit → Shared → Prop} {E : Value → Shared → Prop} {A : Around}
theorem le_put (T : OeL X.K C) (I : Inv X pins σ H s) (e : H a = some (exo a C none)) (hno : PySem.W.findIn X.K (.ref C) f = some none) (ry : RelV y u)
    (fin : ∀ dx s', H dx = none → dx ≠ a → Inv X pins σ (upd (upd H dx (exd dx [(f, y)])) a (exo a C (some dx))) s' → Q () s') : wpAny (model X.prog X.w) A (setAttr (.ref a) f u) Q E s := by
  obtain ⟨nm, qn, N, bs, sn, sub, ab, col, dd, k0, k1, k2, k3, k5, hC⟩ := T.cls
  have hcl : PySem.W.clsIn X.K C = some { name := nm, bases := bs, mro := .ref C :: LEbm, ns := N, qualname := qn, hasDict := true, slotNames := sn, subclasses := sub, abstract := ab, collection := col, hasDel := false } := by
    unfold PySem.W.clsIn
    rw [hC] <;> rfl
  obtain ⟨t1, ho⟩ := exo_at I.hok e
  obtain ⟨hp, g, d, t, os⟩ := s
  refine PySem.W.set_plain I.kIn (ox := { cls := .ref C, dict := none, data := .fields #[.ref t1, .none, .none, .none, .bool false, .none] }) (od := none) ⟨ho, rfl, rfl, trivial⟩ T.sa ?_
  refine le_store I.kIn ho hcl rfl rfl hno (fun h' tk' dx kp big dne hx hns => ?_)
  have free : H dx = none := I.hok.fresh big
  have offD : ∀ {b : Addr} {o : Obj}, hp.get? b = some o → b ≠ dx := fun {b o} z => Nat.ne_of_lt (Nat.lt_of_lt_of_le (Heap.lt_size z) big)
  have offA : ∀ {b : Addr}, H b = none → b ≠ a := fun {b} n z => by rw [z, e] at n; cases n
  have two : ∀ {b : Addr} {o : HO}, H b = some o → exo a C none ≠ o → (upd (upd H dx (exd dx [(f, y)])) a (exo a C (some dx))) b = some o := fun {b o} z ne => by
    rw [upd_ne (at_ne e z ne), upd_ne (ne_of_none z free)]; exact z
  have step : Un X.fs [] H (upd (upd H dx (exd dx [(f, y)])) a (exo a C (some dx))) hp h' :=
    { keep := fun b o z n _ _ => kp b o (offA n) z
      slot := fun b o z n _ _ => ⟨o.slots, kp b o (offA n) z⟩
      free := fun b o z n _ => by rw [upd_ne (offA n), upd_ne (offD z)]; exact n
      there := fun b o z _ => by
        by_cases hb : b = a
        · subst hb; exact ⟨_, hx⟩
        · exact ⟨o, kp b o hb z⟩
      tups := fun b xs z => two z exo_tup
      frzs := fun b o v z => two z exo_frz
      tbls := fun b ps z => ⟨#[], by rw [two z exo_tbl]; simp⟩ }
  refine fin dx _ free dne (I.un (t' := tk') step fun b o z => ?_)
  by_cases hb : b = a
  · subst hb
    rw [upd_same] at z
    cases z
    exact exo_ok hx
  · rw [upd_ne hb] at z
    by_cases hd : b = dx
    · subst hd
      rw [upd_same] at z
      cases z
      exact exd_ok hns (relO_put (fs := []) ry fun _ => True.intro)
    · rw [upd_ne hd] at z
      refine (I.hok b o z).stay (fun c v hc zz => kp c v ?_ zz) (fun c hc => two hc exo_own) (fun c xs hc => two hc exo_tup)
      rcases hc with hc | hc
      · rw [hc]; exact hb
      · exact at_ne e hc exo_own
end
def tOstL (K : PySem.W.Frag) (f : Str) (to te : TE) : TS := fun D σ H => te σ H fun y H1 => to σ H1 fun x H2 => ∃ a C : Addr, x = .ref a ∧ OeL K C ∧ PySem.W.findIn K (.ref C) f = some none ∧ H2 a = some (exo a C none) ∧
  ∀ dx, H2 dx = none → dx ≠ a → D.nx σ (upd (upd H2 dx (exd dx [(f, y)])) a (exo a C (some dx)))
section
variable {X : Cx} {o e : Expr} {es : List Expr} {to te : TE} {ta : TA} {f x : Str} {p p' pos : Pos}
theorem ps_ostL (ho : PE X o to) (he : PE X e te) (hs : swapsWith e (some (.Attribute o f p')) pos.line X.env = pure false := by rfl) : PS X (.Assign [.Attribute o f p'] e pos) (tOstL X.K f to te) := by
  refine ⟨fun pins s σ H D I h => plainObj_wpAny_Assign_Attribute (thn (he.run pins s σ H _ I h) fun v s1 r1 => ?_) hs⟩
  obtain ⟨y, H1, I1, ry, q1⟩ := r1
  refine thn (ho.run pins s1 σ H1 _ I1 q1) fun u s2 r2 => ?_
  obtain ⟨z, H2, I2, rz, a, C, ez, T, hno, ea, q⟩ := r2
  subst ez
  cases (show u = Value.ref a from rz)
  exact le_put T I2 ea hno ry fun dx s' n ne J => ⟨σ, _, J, q dx n ne⟩
theorem pmk_le {C fI : Addr} {k : Nat} {fd : FuncData} {ps : List Str} {sp : Sp} (T : OeL X.K C) (iC : PySem.W.findIn X.K (.ref C) "__init__" = some (some (.ref fI))) (tI : PySem.W.typeIn X.K (.ref fI) = some (.type "function"))
    (F1 : FnOk X.prog X.w X.K X.mg X.base CX0 k fI fd ps sp) (hr : Room (k + 1) X.A) (hb : Binds X.K fd ps []) (hg : Gl X x) (hm : X.mg x = some (.ref C)) (ha : PA X (e :: es) ta)
    (hdb : (x == ("__debug__" : Str)) = false := by decide) (he : starEach (e :: es) X.env = (false, eval e X.env) :: starEach es X.env := by rfl) (hpl : (backTo pos (starEach es X.env)).any (·.1) = false := by rfl) :
    PMk X (.Call (.Name x p) (e :: es) [] pos) (tMkO C sp [] ta) := by
  intro pins s σ H Q I h
  obtain ⟨nm, qn, N, bs, sn, sub, ab, col, dd, k0, k1, k2, k3, k5, hC⟩ := T.cls
  refine wpAny_Call_Name_kw (ld_glob I hg hm ?_ hdb)
  refine PySem.W.callWith_K (h₀ := X.base) I.ok.mod.kin T.kC (thn (ha.run pos pins s σ H _ I h) fun us s1 got => ?_) he hpl
  obtain ⟨vs, H1, I1, r1, hz, q1⟩ := got
  refine ⟨I1.kIn, ?_⟩
  show wpAny _ _ (call (.ref C) us) _ _ _
  obtain ⟨hp, g, dr, tk, os⟩ := s1
  have new : H1 (hp.objs.size + 1) = none := I1.hok.fresh (Nat.le_succ _)
  have kk : ∀ b o, hp.get? b = some o → ((hp.push (PySem.W.kdv_tup us)).push (PySem.HandSPX.excO C hp.objs.size)).get? b = some o := fun b o z => Heap.get?_push_of_some _ (Heap.get?_push_of_some _ z)
  have there : ((hp.push (PySem.W.kdv_tup us)).push (PySem.HandSPX.excO C hp.objs.size)).get? (hp.objs.size + 1) = some (PySem.HandSPX.excO C hp.objs.size) := by heap_get
  have I2 : Inv X pins σ (upd H1 (hp.objs.size + 1) (exo (hp.objs.size + 1) C none)) ⟨(hp.push (PySem.W.kdv_tup us)).push (PySem.HandSPX.excO C hp.objs.size), g, dr, tk, os⟩ :=
    I1.laid (t' := tk) (a := hp.objs.size + 1) (o := exo (hp.objs.size + 1) C none) (h' := (hp.push (PySem.W.kdv_tup us)).push (PySem.HandSPX.excO C hp.objs.size)) kk (Nat.le_succ _) (exo_ok there)
  have want := q1 (hp.objs.size + 1) new
  have rel : Vals (V.ref (hp.objs.size + 1) :: (vs ++ [])) (Value.ref (hp.objs.size + 1) :: (us ++ [])) := .cons rfl (r1.append .nil)
  have len : (Value.ref (hp.objs.size + 1) :: us ++ []).length = ps.length := by
    have z := rel.length
    rw [F1.len _ _ _ _ want] at z
    exact z.symm
  have few : us.length ≤ sizeLine := by
    rw [← Paired.length r1, sizeLine_eq]
    omega
  refine wpAny_call (PySem.HandSPX.call_own PySem.F.excBase_LookupError (fun _ => rfl) (I1.kIn _ _ hC) (PySem.W.looks_findIn I1.kIn iC) (fun self => PySem.W.bind_fn I1.kIn self tI) few ?_)
  have bnd := hb _ (Value.ref (hp.objs.size + 1) :: us) I2.kIn len
  rw [List.cons_append] at bnd
  refine codeAny_mono (F1.run _ X.stack _ _ ⟨Value.ref (hp.objs.size + 1) :: us, []⟩ (Value.ref (hp.objs.size + 1) :: (us ++ [])) _ _ (fun _ _ _ => False) (hr.make C us []) (I2.env0.make C us []) bnd rel want) fun rr s' done => ?_
  cases rr with
  | error er => exact done.elim
  | ok fl =>
    cases fl with
    | next => exact done.elim
    | brk => exact done.elim
    | cont => exact done.elim
    | ret u =>
      obtain ⟨v, H2, os2, bare2, un2, hok2, rv, ev, dx, fs, ea, ed, hd1, q2⟩ := done
      subst ev
      obtain ⟨h2, g2, d2, t2, os'⟩ := s'
      exact ⟨rv, mk_end (raises_own T.exC T.tyC) I1 (Nat.le_succ _) kk un2 hok2 os2 bare2 ea ed hd1 q2⟩
end
structure XL (K : PySem.W.Frag) (C fI : Addr) (fld : Str) : Prop where
  T : OeL K C
  iC : PySem.W.findIn K (.ref C) "__init__" = some (some (.ref fI))
  tI : PySem.W.typeIn K (.ref fI) = some (.type "function")
  no : PySem.W.findIn K (.ref C) fld = some none
  rd : XfC K C
theorem xl1B_ok {K : PySem.W.Frag} {C fI : Addr} {fld : Str} (h : xf1B K C fI fld = true) (c : ∃ nm q N bs sn sub ab col dd k0 k1 k2 k3 k5, K.lookup C = some (excClassObj nm q C N bs LEbm true sn sub ab col dd k0 k1 k2 k3 k5 "LookupError.__new__")) : XL K C fI fld := by
  simp only [xf1B, Bool.and_eq_true, decide_eq_true_eq] at h
  obtain ⟨h1, h2, h3, h4, h5, h6, h7, h8⟩ := h
  exact ⟨⟨c, h1, h2, h3, h4⟩, h5, h6, h7, xfB_ok h8⟩
end Pv

namespace Pv
open PySem PySem.Spec PyProof.Rows L2
/-! several clauses, each with a name for the error -/
abbrev Clause := Value × Nat × (Addr → Value → Option Addr → TS)
def endsOf (D : Ends) (i : Nat) : Ends := { nx := fun σ H => D.nx (σ.set i none) H, rt := D.rt, bk := fun σ H => D.bk (σ.set i none) H, ct := fun σ H => D.ct (σ.set i none) H }
def wClauses (K : PySem.W.Frag) (Wout : WX) (D : Ends) : List Clause → WX
  | [] => Wout
  | (c, i, ts) :: r => fun cls d σ H => ∃ b, PySem.W.exmOne K cls c = some b ∧ (b = true → ∀ a, H a = none → ts a cls d (endsOf D i) (σ.set i (some (.ref a))) H) ∧ (b = false → wClauses K Wout D r cls d σ H)
inductive Clauses (X : Cx) : List ExceptHandler → List Clause → Prop
  | nil : Clauses X [] []
  | cons {x n : Str} {c : Value} {i : Nat} {ts : Addr → Value → Option Addr → TS} {b₀ : Stmt} {suite : List Stmt} {np pos' : Pos} {hds : List ExceptHandler} {l : List Clause} (hi : X.N[i]? = some n) (hl : X.env.kindOf n = some .local) (hc : Names X x c)
      (hsu : ∀ (a : Addr) (oe : Obj) (cls : Value) (d : Option Addr) (pn : List (Addr × Obj)), Zc cls d oe → (∃ vs, oe.data = .fields vs) → PSs (X.suite a ((a, oe) :: pn)) (b₀ :: suite) (ts a cls d)) (r : Clauses X hds l) :
      Clauses X (.ExceptHandler (some (.Name x np)) (some n) (b₀ :: suite) pos' :: hds) ((c, i, ts) :: l)
section
variable {X : Cx} {body : List Stmt} {h₀ : ExceptHandler} {hds : List ExceptHandler} {l : List Clause} {pos : Pos} {tb : WX → TS} {Wout : WX}
theorem ps_tries (hs : X.stack = X.env :: X.outer) (hf : X.env.frame = some X.env.locals) (hN : X.N.Nodup) (tk : Takes X Wout)
    (hb : ∀ (W : WX) (pn : List (Addr × Obj)) (xe : Value → Shared → Prop), Takes (X.tr pn xe) W → PassesOwn (model X.prog X.w) X.A X.env xe → PSs (X.tr pn xe) body (tb W))
    (hh : Clauses X (h₀ :: hds) l) : PS X (.Try body (h₀ :: hds) [] [] pos) (fun D σ H => tb (wClauses X.K Wout D l) D σ H) := by
  refine ⟨fun pins s σ H D I h => ?_⟩
  have ok := I.ok
  have frames : X.A.frames = some (X.env :: X.outer) := by rw [ok.frames, hs]
  let after : Value → Shared → Prop := fun e s₁ => wpAny (model X.prog X.w) X.A (noteFrame e X.env) (fun _ s₂ => wpAny (model X.prog X.w) X.A (setFlight e none) (fun _ s₃ =>
    wpAny (model X.prog X.w) X.A (handleBy e X.env (h₀ :: hds)) (SP X pins D) X.xe s₃) X.xe s₂) X.xe s₁
  have caught : Takes (X.tr (X.pn ++ pins) after) (wClauses X.K Wout D l) := by
    intro u s' xx
    obtain ⟨a, B, sI, pins', σ', H', cls, d, rfl, J', nb, up, sky, na, os, ag, want⟩ := xx
    have J : Inv X pins σ' H' sI := J'.ofTry ok
    have sky' : Sky B (X.env :: X.outer) a (Zc cls d) X.env.locals s'.heap := by rw [← hs]; exact sky
    show wpAny (model X.prog X.w) X.A (noteFrame (.ref a) X.env) _ _ _
    refine Sky.land Zc.steady frames hf sky' fun h3 fl3 up3 => ?_
    have J3 : Inv X pins σ' H' { s' with heap := h3 } := J.landed nb fl3.1 (up.trans up3) os ag
    obtain ⟨oe3, vs3, he3, hz3, hd3⟩ := fl3.there
    have off : a ∉ frs (X.env :: X.outer) := fun hm => by
      obtain ⟨_, o', e', hnf⟩ := fl3.2.2.1.mem hm
      rw [he3] at e'
      cases e'
      exact hnf _ hd3
    have offL : a ≠ X.env.locals := fun z => off (List.mem_filterMap.mpr ⟨X.env, List.mem_cons_self, by rw [hf, z]⟩)
    have offF : a ∉ X.fs := fun hm => by
      obtain ⟨e, he, q⟩ := List.mem_filterMap.mp hm
      exact off (List.mem_filterMap.mpr ⟨e, List.mem_cons_of_mem _ he, q⟩)
    have S3 := J3.suite he3 hd3 na offL offF
    have walk : ∀ {hl : List ExceptHandler} {cl : List Clause}, Clauses X hl cl → wClauses X.K Wout D cl cls d σ' H' → wpAny (model X.prog X.w) X.A (handleBy (.ref a) X.env hl) (SP X pins D) X.xe { s' with heap := h3 } := by
      intro hl cl hk
      induction hk with
      | nil =>
        intro want
        refine wpAny_handleBy_nil ?_
        obtain ⟨k1, k2, k3, oe, vs, T, oT, ts', he, hz, hd, h1, hr⟩ := id fl3
        have out : wpAny (model X.prog X.w) X.A (setFlight (.ref a) X.env.frame) (fun _ s4 => wpAny (model X.prog X.w) X.A (throw (.ref a) : Sem Flow) (SP X pins D) X.xe s4) X.xe { s' with heap := h3 } := by
          rw [hf]
          refine HandSPX.setFlight_upZ fl3 fun h4 hh4 up4 => wpAny_throw (tk _ _ ?_)
          exact ⟨a, B, sI, pins, σ', H', cls, d, rfl, J, nb, (up.trans up3).trans up4, .inr (.inr (by rw [hs]; exact hh4)), na, os, ag, want⟩
        unfold PySem.passOn
        refine wpAny_bind (wpAny_field he hd h1 ?_)
        rw [if_neg (show ¬ ((Value.ref T == Value.none) = true) from by simp)]
        first
          | exact wpAny_bind out
          | exact wpAny_bind (wpAny_pure (wpAny_bind out))
      | @cons x n c i ts b₀ suite np pos' hds2 l2 hi hl hc hsu r ih =>
        intro want
        obtain ⟨b, hb1, yes, no⟩ := want
        refine wpAny_handleBy_cons (codeAny_handlers_test ?_) (by intro q; cases q)
        have ty : PySem.W.Looks (model X.prog X.w) h3 (typeOf (.ref a)) cls := fun A Q E s k q => wpAny_typeOf_ref (k _ _ he3) (by rw [hz3.1]; exact q)
        have meets := PySem.W.exm_one (M := model X.prog X.w) (J3.kIn) ty hb1
        have named : ∀ {Q : Value → Shared → Prop} {E : Value → Shared → Prop}, Q c { s' with heap := h3 } → wpAny (model X.prog X.w) (X.A.mark (some (.ref a))) (eval (.Name x np) X.env) Q E { s' with heap := h3 } := fun {Q E} q => by
          obtain ⟨hg, hdbg, hm | ⟨hm, hv, hnn⟩⟩ := hc
          · exact ld_glob (X := X.suite a ((a, oe3) :: (X.pn ++ pins))) S3 hg hm q hdbg
          · exact ld_blt (X := X.suite a ((a, oe3) :: (X.pn ++ pins))) S3 hg hm hv q hnn hdbg
        refine named (meets.here ?_)
        cases b with
        | false =>
          show wpAny _ X.A (handleBy (.ref a) X.env hds2) _ _ _
          exact ih (no rfl)
        | true =>
          refine codeAny_handlers_suite_as ?_
          refine HandSPX.lands_againZ fl3 fun h4 fl4 up4 => ?_
          have J4 : Inv X pins σ' H' { s' with heap := h4 } := J.landed nb fl4.1 ((up.trans up3).trans up4) os ag
          obtain ⟨oe4, vs4, he4, hz4, hd4⟩ := fl4.there
          have S4 := J4.suite he4 hd4 na offL offF
          refine store_ok (X := X.suite a ((a, oe4) :: (X.pn ++ pins))) (v := .ref a) S4 hN hi (.inl hl) rfl (fun s5 S5 => ?_) (.inr hl)
          refine wpAny_mono ((hsu a oe4 cls d (X.pn ++ pins) hz4 ⟨_, hd4⟩).run [] s5 _ H' _ S5 (yes rfl a na)) (fun fl s6 done => ?_) (fun _ _ z => False.elim z)
          have unname : ∀ {σ6 : L2.St} {H6 : Hp} {Q : Shared → Prop}, Inv (X.suite a ((a, oe4) :: (X.pn ++ pins))) [] σ6 H6 s6 → (∀ s7, Inv X pins (σ6.set i none) H6 s7 → Q s7) →
              wpAny (model X.prog X.w) X.A (do bindName X.env n .none; unbindBehindTheSuite X.env n pos') (fun _ s7 => Q s7) X.xe s6 := fun {σ6 H6 Q} S6 hq => gone_ok (S6.unsuite ok) hN hi hl hq
          cases fl with
          | next => obtain ⟨σ6, H6, S6, q6⟩ := done; exact unname S6 fun s7 J7 => ⟨_, _, J7, q6⟩
          | brk => obtain ⟨σ6, H6, S6, q6⟩ := done; exact unname S6 fun s7 J7 => ⟨_, _, J7, q6⟩
          | cont => obtain ⟨σ6, H6, S6, q6⟩ := done; exact unname S6 fun s7 J7 => ⟨_, _, J7, q6⟩
          | ret u => obtain ⟨v6, σ6, H6, S6, r6, q6⟩ := done; exact unname S6 fun s7 J7 => ⟨_, _, _, J7, r6, q6⟩
    exact walk hh want
  refine wpAny_Try_except (wpAny_mono ((hb _ (X.pn ++ pins) after caught PassesOwn.looking).run [] s σ H D (I.toTry _) h) (fun fl s1 done => ?_) (fun e s1 he => he))
  cases fl with
  | next => obtain ⟨σ', H', J', q⟩ := done; exact wpAny_execs_nil ⟨σ', H', J'.ofTry ok, q⟩
  | brk => obtain ⟨σ', H', J', q⟩ := done; exact ⟨σ', H', J'.ofTry ok, q⟩
  | cont => obtain ⟨σ', H', J', q⟩ := done; exact ⟨σ', H', J'.ofTry ok, q⟩
  | ret u => obtain ⟨v, σ', H', J', r, q⟩ := done; exact ⟨v, σ', H', J'.ofTry ok, r, q⟩
end
/-! a call of one of several defs, whichever the expression hands out -/
structure Callee (P : Program) (w : World) (K : PySem.W.Frag) (mg : Str → Option Value) (base : Heap) (CX : CXT) (k : Nat) (f : Addr) (sp : Sp) : Prop where
  ok : ∃ fd ps, FnOk P w K mg base CX k f fd ps sp ∧ Binds K fd ps []
  kp : PySem.W.keepIn K (.ref f) = true
def tCallV (tbl : List (Addr × Sp)) (E : L2.St → XK) (tf : TE) (t : TA) : TE := fun σ H Q => tf σ H fun x H1 => ∃ (f : Addr) (sp : Sp), (f, sp) ∈ tbl ∧ x = .ref f ∧ t σ H1 fun vs H2 => sp vs H2 Q (E σ)
theorem pe_callV {X : Cx} {CX : CXT} {k : Nat} {tbl : List (Addr × Sp)} {E : L2.St → XK} {fe e : Expr} {es : List Expr} {pos : Pos} {tf : TE} {t : TA} (hT : ∀ q ∈ tbl, Callee X.prog X.w X.K X.mg X.base CX k q.1 q.2) (hr : Room k X.A) (hx : ∀ σ, PassesAt CX X σ (E σ))
    (hf : PE X fe tf) (ha : PA X (e :: es) t)
    (ht : eval (.Call fe (e :: es) [] pos) X.env = (do callWith pos (← eval fe X.env) [] (backTo pos (starEach (e :: es) X.env)) (backToKw pos (keywordEach [] X.env))) := by rfl)
    (he : starEach (e :: es) X.env = (false, eval e X.env) :: starEach es X.env := by rfl) (hpl : (backTo pos (starEach es X.env)).any (·.1) = false := by rfl) :
    PE X (.Call fe (e :: es) [] pos) (tCallV tbl E tf t) := by
  refine ⟨fun pins s σ H Q I h => PyProof.Rows.Call_ (thn (hf.run pins s σ H _ I h) fun u s1 got => ?_) ht⟩
  obtain ⟨x, H1, I1, rx, f, sp, hm, ex, q1⟩ := got
  subst ex
  cases (show u = Value.ref f from rx)
  obtain ⟨⟨fd, ps, F, hb⟩, hk⟩ := hT _ hm
  refine PySem.W.callWith_K (h₀ := X.base) I1.ok.mod.kin hk (thn (ha.run pos pins s1 σ H1 _ I1 q1) fun us s2 got2 => ?_) he hpl
  obtain ⟨vs, H2, I2, r2, q2⟩ := got2
  exact ⟨I2.kIn, run_fnS F hr hb (hx σ) I2 r2 q2⟩
end Pv

namespace Pv
open PySem PySem.Spec PyProof.Rows L2
def topS (i : Nat) : Stmt := PySem.Challenge.pw_postvote_k53_groups_split_and_merged.main.body.getD i (.Pass ⟨0, 0, 0, 0⟩)
abbrev sDraw : Stmt := topS 20
abbrev sStart : Stmt := topS 19
abbrev sOne : Stmt := topS 21
theorem scDraw : FnScope ["_law_deck_here", "_law_many", "_law_cells", "_law_rests", "_law_count", "_law_index", "_law_digit", "_law_mixed_here"] ["_law_deck_here", "_law_many"] (defScope sDraw) :=
  ⟨rfl, rfl, rfl, by decide +kernel, rfl, by decide +kernel, by decide +kernel⟩
theorem scStart : FnScope ["_law_script", "_law_cells", "_law_cell"] ["_law_script"] (defScope sStart) := ⟨rfl, rfl, rfl, by decide +kernel, rfl, by decide +kernel, by decide +kernel⟩
theorem scOne : FnScope ["_law_deck_here", "_law_items"] ["_law_deck_here", "_law_items"] (defScope sOne) := ⟨rfl, rfl, rfl, by decide +kernel, rfl, by decide +kernel, by decide +kernel⟩
section
variable {P : Program} {w : World} {K : PySem.W.Frag} {mg : Str → Option Value} {base : Heap}
def spDraw : Sp := fun vs H Q _ => ∃ (st c r : Addr) (t : Nat) (m : Int), vs = [.ref st, .int m] ∧ DS H st c r t ∧ t < 1000000 ∧ 0 < m ∧ m ≤ 2 ^ 60 ∧
  ∀ (H' : Hp) (d : Int), 0 ≤ d → d < m → DS H' st c r (t + 1) → Ext st r H H' → Q (.int d) H'
set_option maxHeartbeats 1000000 in
theorem ok_draw {f : Addr} {fd : FuncData} {k : Nat} (F : Fun K "_law_next" "_law_next" sDraw f fd) (ml : mg "len" = none) : FnOk P w K mg base CX0 (k + 1) f fd ["_law_deck_here", "_law_many"] spDraw := by
  refine F.ok scDraw (fun vs H Q E h => ?_) (fun cdv A outer s H vs Q E hr h => ?_)
  · obtain ⟨st, c, r, t, m, rfl, _⟩ := h
    rfl
  · obtain ⟨st, c, r, t, m, rfl, hd, ht, hm, hm2, q⟩ := h
    obtain ⟨cells, rests, hc, hrr, hl, hl0, hl1, hnn⟩ := hd.ex
    refine ⟨_, pss_cons (ps_asg (pv 0) (pg_unl rfl (pgs_cons (pg_name (i := 2) scDraw.nd rfl (.inl rfl)) (pgs_cons (pg_name (i := 3) scDraw.nd rfl (.inl rfl)) (pgs_cons (pg_name (i := 4) scDraw.nd rfl (.inl rfl)) pgs_nil)))))
      (pss_cons (ps_asg (pe_op op_add (pv 4) pe_int) (pg_sub (pv 0) pe_int set_list))
      (pss_cons (ps_set (i := 5) scDraw.nd rfl (.inl rfl) (pe_op op_mod (pv 4) (pe_callB call_len_seq (by rfl) ml PySem.boot_len (pa_cons (pv 2) pa_nil))))
      (pss_cons (ps_if (pt_cmpR op_gt (pe_ix ix_list (pv 3) (pv 5) (fun _ _ => rfl)) pe_int (nomark _))
        (pss_cons (ps_set (i := 6) scDraw.nd rfl (.inl rfl) (pe_op op_mod (pe_ix ix_list (pv 3) (pv 5) (fun _ _ => rfl)) (pv 1)))
        (pss_cons (ps_asg (pe_op op_fdivW (pe_ix ix_list (pv 3) (pv 5) (fun _ _ => rfl)) (pv 1)) (pg_sub (pv 3) (pv 5) set_list))
        (pss_one (ps_ret (pv 6))))) pss_nil)
      (pss_cons (ps_set (i := 7) scDraw.nd rfl (.inl rfl) (pe_op op_mul (pe_op op_add (pe_op op_add (pe_ix ix_list (pv 2) (pv 5) (fun _ _ => rfl)) (pe_op op_mul pe_int (pv 4))) pe_int) (pe_op op_add pe_int (pe_op op_mul pe_int (pv 4)))))
      (pss_cons (ps_set (i := 7) scDraw.nd rfl (.inl rfl) (pe_op op_mod (pe_op op_add (pv 7) (pe_op op_mul pe_int (pv 4))) pe_int))
      (pss_cons (ps_set (i := 7) scDraw.nd rfl (.inl rfl) (pe_op op_mod (pe_op op_add (pe_op op_mul (pv 7) (pv 7)) pe_int) pe_int))
      (pss_cons (ps_set (i := 7) scDraw.nd rfl (.inl rfl) (pe_op op_mod (pe_op op_mul (pv 7) (pv 7)) pe_int))
      (pss_one (ps_ret (pe_op op_mod (pe_op op_fdiv (pv 7) pe_int) (pv 1))))))))))), ?_⟩
    refine ⟨.ref st, rfl, st, _, rfl, SqL.of hd.hs, rfl, .ref c, _, rfl, .ref r, _, rfl, .int t, _, rfl, rfl, ?_⟩
    -- deck[2] = count + 1
    refine ⟨.int t, rfl, _, _, rfl, rfl, .ref st, rfl, st, _, 2, 2, rfl, rfl, hd.hs, rfl, ?_⟩
    have e1 : (upd H st (.lst [.ref c, .ref r, .int ((t : Int) + 1)])) r = some (.lst (rests.map V.int)) := by rw [upd_ne hd.n3.symm]; exact hrr
    have e2 : (upd H st (.lst [.ref c, .ref r, .int ((t : Int) + 1)])) c = some (.lst (cells.map V.int)) := by rw [upd_ne hd.n2.symm]; exact hc
    have ex0 : Ext st r H (upd H st (.lst [.ref c, .ref r, .int ((t : Int) + 1)])) := fun b o h n1 _ => by rw [upd_ne n1]; exact h
    have d0 : DS (upd H st (.lst [.ref c, .ref r, .int ((t : Int) + 1)])) st c r (t + 1) := ⟨upd_same, ⟨cells, rests, e2, e1, hl, hl0, hl1, hnn⟩, hd.n1, hd.n2, hd.n3⟩
    -- index
    refine ⟨.int t, rfl, .ref c, rfl, c, _, rfl, .inl (SqL.of e2), _, _, rfl, rfl, by rw [List.length_map]; omega, ?_⟩
    have hn : (List.map V.int cells).length = cells.length := List.length_map ..
    have hsp : ((t : Int) % (((List.map V.int cells).length : Nat) : Int)) = ((t % cells.length : Nat) : Int) := by rw [hn]; norm_cast
    have hlt : t % cells.length < cells.length := Nat.mod_lt _ hl0
    generalize hj : t % cells.length = j at hsp hlt
    obtain ⟨x, hx⟩ : ∃ x, rests[j]? = some x := ⟨rests[j], List.getElem?_eq_getElem (by omega)⟩
    obtain ⟨y, hy⟩ : ∃ y, cells[j]? = some y := ⟨cells[j], List.getElem?_eq_getElem (by omega)⟩
    have hx0 : 0 ≤ x := hnn x (List.mem_of_getElem? hx)
    have hxv : (rests.map V.int)[j]? = some (.int x) := by rw [List.getElem?_map, hx]; rfl
    have hyv : (cells.map V.int)[j]? = some (.int y) := by rw [List.getElem?_map, hy]; rfl
    dsimp only
    rw [hsp]
    refine ⟨.ref r, rfl, .int j, rfl, r, _, _, .int x, rfl, rfl, SqL.of e1, atI_nat hxv, _, _, rfl, rfl, _, rfl, ite2 (fun hgt => ?_) (fun hle => ?_)⟩
    · refine ⟨.ref r, rfl, .int j, rfl, r, _, _, .int x, rfl, rfl, SqL.of e1, atI_nat hxv, .int m, rfl, _, _, rfl, rfl, hm, ?_⟩
      refine ⟨.ref r, rfl, .int j, rfl, r, _, _, .int x, rfl, rfl, SqL.of e1, atI_nat hxv, .int m, rfl, _, _, rfl, rfl, wide_div (b := 61) hm (by omega) (by decide) (by decide), ?_⟩
      refine ⟨.ref r, rfl, .int j, rfl, r, _, _, j, rfl, rfl, e1, ixN_nat (by rw [List.length_map]; omega), ?_⟩
      refine ⟨_, rfl, q _ _ (Int.emod_nonneg _ (by omega)) (Int.emod_lt_of_pos _ hm) ?_ ?_⟩
      · refine ⟨by rw [upd_ne hd.n3]; exact upd_same, ⟨cells, rests.set j (x / m), by rw [upd_ne hd.n1]; exact e2, by rw [upd_same, List.map_set], by rw [List.length_set]; exact hl, hl0, hl1, ?_⟩, hd.n1, hd.n2, hd.n3⟩
        intro z hz
        rcases List.mem_or_eq_of_mem_set hz with h | h
        · exact hnn z h
        · rw [h]; exact Int.ediv_nonneg hx0 (by omega)
      · exact fun b o h n1 n2 => by rw [upd_ne n2]; exact ex0 b o h n1 n2
    · refine ⟨.ref c, rfl, .int j, rfl, c, _, _, .int y, rfl, rfl, SqL.of e2, atI_nat hyv, .int t, rfl, _, _, rfl, rfl, .inl ⟨by decide, by decide⟩, _, _, rfl, rfl, _, _, rfl, rfl, .int t, rfl, _, _, rfl, rfl, .inl ⟨by decide, by decide⟩, _, _, rfl, rfl, _, _, rfl, rfl, .inr ⟨by omega, by omega⟩, ?_⟩
      refine ⟨_, rfl, .int t, rfl, _, _, rfl, rfl, .inl ⟨by decide, by decide⟩, _, _, rfl, rfl, _, _, rfl, rfl, (by show (0 : Int) < 2305843009213693951; decide), ?_⟩
      dsimp only
      generalize hu : ((y + 1301 * (t : Int) + 23) * (50021 + 2 * (t : Int)) + 90001 * (t : Int)) % 2305843009213693951 = u
      have hu1 : 0 ≤ u := by rw [← hu]; exact Int.emod_nonneg _ (by decide)
      have hu2 : u < 2305843009213693951 := by rw [← hu]; exact Int.emod_lt_of_pos _ (by decide)
      refine ⟨.int u, rfl, .int u, rfl, _, _, rfl, rfl, .inl ⟨by omega, by omega⟩, _, _, rfl, rfl, _, _, rfl, rfl, (by show (0 : Int) < 2305843009213693921; decide), ?_⟩
      dsimp only
      generalize hv : (u * u + 60013) % 2305843009213693921 = v
      have hv1 : 0 ≤ v := by rw [← hv]; exact Int.emod_nonneg _ (by decide)
      have hv2 : v < 2305843009213693921 := by rw [← hv]; exact Int.emod_lt_of_pos _ (by decide)
      refine ⟨.int v, rfl, .int v, rfl, _, _, rfl, rfl, .inl ⟨by omega, by omega⟩, _, _, rfl, rfl, (by show (0 : Int) < 2305843009213693951; decide), ?_⟩
      refine ⟨_, rfl, _, _, rfl, rfl, ⟨by decide, by decide⟩, .int m, rfl, _, _, rfl, rfl, hm, ?_⟩
      exact q _ _ (Int.emod_nonneg _ (by omega)) (Int.emod_lt_of_pos _ hm) d0 ex0
def spStart (K : PySem.W.Frag) : Sp := fun vs H Q _ => ∃ (a : Addr) (ns : List Int), vs = [.ref a] ∧ SqL K H a (ns.map V.int) ∧ ns.length ≤ 63 ∧
  ∀ H' st c r, Same H H' → DS H' st c r 0 → Q (.ref st) H'
set_option maxHeartbeats 2000000 in
theorem ok_start {f : Addr} {fd : FuncData} {k : Nat} (F : Fun K "_law_deck" "_law_deck" sStart f fd) (ma : mg "abs" = none) (mi : mg "int" = none) (ml : mg "len" = none) :
    FnOk P w K mg base CX0 (k + 1) f fd ["_law_script"] (spStart K) := by
  refine F.ok scStart (fun vs H Q E h => ?_) (fun cdv A outer s H vs Q E hr h => ?_)
  · obtain ⟨a, ns, rfl, _⟩ := h; rfl
  · obtain ⟨a, ns, rfl, hS, hn, q⟩ := h
    refine ⟨_, pss_cons (ps_set (i := 1) scStart.nd rfl (.inl rfl) (pe_op op_cat
        (pe_lc (own := [("_law_cell", 2)]) (g := gName 2) (tt := tYes) rfl scStart.nd (pi_list (pe_slice sl_list (pv 0) po_none (po_some pe_int))) (blkOk_by (N := ["_law_script", "_law_cells", "_law_cell"]) (sc := defScope sStart) (by decide +kernel))
            (fun _ _ _ _ _ => pg_name (i := 2) scStart.nd rfl (.inl rfl)) (fun _ _ _ _ _ => pts_nil)
            (fun _ _ _ _ _ => pe_callB call_abs (by rfl) ma (by decide +kernel) (pa_cons (pv 2) pa_nil)))
        (pe_op op_rep (pe_lst (pa_cons pe_int pa_nil)) (pe_callTy call_int1 (by rfl) mi (by decide +kernel) (pa_cons (pe_cmpR op_eq (pe_callB call_len_seq (by rfl) ml PySem.boot_len (pa_cons (pv 0) pa_nil)) pe_int (nomark _)) pa_nil)))))
      (pss_one (ps_ret (pe_lst (pa_cons (pv 1) (pa_cons
        (pe_lc (own := [("_law_cell", 2)]) (g := gName 2) (tt := tYes) rfl scStart.nd (pi_list (pv 1)) (blkOk_by (N := ["_law_script", "_law_cells", "_law_cell"]) (sc := defScope sStart) (by decide +kernel))
            (fun _ _ _ _ _ => pg_name (i := 2) scStart.nd rfl (.inl rfl)) (fun _ _ _ _ _ => pts_nil)
            (fun _ _ _ _ _ => pe_op op_mul (pv 2) (pe_callTy call_int1 (by rfl) mi (by decide +kernel) (pa_cons (pe_cmpR op_ge (pv 2) (pe_op op_pow pe_int pe_int) (nomark _)) pa_nil))))
        (pa_cons pe_int pa_nil)))))), ?_⟩
    have hcut : cutV (ns.map V.int) none (some 61) = (ns.take 61).map V.int := by rw [List.map_take]; exact cut_to _ 61
    refine ⟨.ref a, rfl, 61, rfl, a, _, rfl, hS, fun p np => ⟨p, rfl, ⟨_, SqL.of upd_same⟩, fun D nD => lc_list (xs := cutV (ns.map V.int) none (some 61))
      (fun j H2 => Same (upd H p (.lst (cutV (ns.map V.int) none (some 61)))) H2 ∧ H2 D = some (.lst ((((ns.take 61).map absI).take j).map V.int)))
      ⟨sameNew nD, upd_same⟩ (fun j H2 _ h2 => SqL.of (h2.1 _ _ upd_same)) ?_ ?_⟩⟩
    · rintro j x H2 hx ⟨s2, e2⟩
      rw [hcut, List.getElem?_map] at hx
      obtain ⟨z, hz, rfl⟩ := Option.map_eq_some_iff.mp hx
      refine ⟨rfl, .int z, rfl, z, rfl, _, e2, ?_, samePut s2 nD, ?_⟩
      · rw [List.length_map, List.length_take]; simp; exact small (by omega)
      · rw [upd_same, take_snoc (show ((ns.take 61).map absI)[j]? = some (absI z) by rw [List.getElem?_map, hz]; rfl), List.map_append]; rfl
    · rintro H2 ⟨s2, e2⟩
      rw [hcut, List.length_map, List.take_of_length_le (by simp)] at e2
      have s02 : Same H H2 := (sameNew np).trans s2
      -- [0] * int(len(script) == 0)
      refine ⟨by decide, fun p1 n1 => ⟨.ref a, rfl, a, _, rfl, .inl (((s02.trans (sameNew n1))).seq hS), rfl, .inr ⟨_, rfl, p1, _, _, rfl, rfl, upd_same, by split <;> decide, by split <;> decide, by split <;> decide, fun p2 n2 => ?_⟩⟩⟩
      generalize hb : decide (V.int ((List.map V.int ns).length : Int) = V.int 0) = b at n2 ⊢
      have e2' := upNew n2 (o := .lst (List.replicate (if b = true then (1 : Int) else 0).toNat [V.int 0]).flatten) (upNew n1 (o := .lst [.int 0]) e2)
      have hl0 : ns.length = 0 ↔ b = true := by
        rw [← hb, decide_eq_true_eq, List.length_map]
        constructor
        · intro h; rw [h]; rfl
        · intro h; have := V.int.inj h; omega
      have hrep : (List.replicate (if b = true then (1 : Int) else 0).toNat [V.int 0]).flatten = ((if b = true then [0] else []) : List Int).map V.int := by
        cases b <;> rfl
      refine ⟨D, p2, _, _, rfl, rfl, e2', upd_same, ?_, fun C nC => ?_⟩
      · rw [hrep, List.length_map, List.length_map, List.length_map, List.length_take]; have : (if b = true then [0] else [] : List Int).length ≤ 1 := by split <;> simp
        have h5 := small (n := 100) (by omega); omega
      rw [hrep, ← List.map_append] at *
      generalize hcl : (List.take 61 ns).map absI ++ (if b = true then [0] else []) = cells
      have hnn : ∀ c ∈ cells, 0 ≤ c := by
        intro c hc
        rw [← hcl, List.mem_append] at hc
        rcases hc with h | h
        · obtain ⟨i, _, rfl⟩ := List.mem_map.mp h; exact absI_nn i
        · split at h
          · simp at h; omega
          · simp at h
      have hcl0 : 0 < cells.length ∧ cells.length ≤ 62 := by
        rw [← hcl, List.length_append, List.length_map, List.length_take]
        by_cases hb1 : b = true
        · rw [if_pos hb1]; simp; omega
        · rw [if_neg hb1]
          have : ns.length ≠ 0 := fun z => hb1 (hl0.mp z)
          simp; omega
      generalize hHC : upd (upd (upd H2 p1 (.lst [.int 0])) p2 (.lst (((if b = true then [0] else []) : List Int).map V.int))) C (.lst (cells.map V.int)) = HC
      have eC : HC C = some (.lst (cells.map V.int)) := by rw [← hHC]; exact upd_same
      have s0C : Same H HC := by rw [← hHC]; exact ((s02.trans (sameNew n1)).trans (sameNew n2)).trans (sameNew nC)
      refine ⟨.ref C, rfl, .ref C, rfl, C, rfl, ⟨_, SqL.of eC⟩, fun R nR => lc_list (xs := cells.map V.int)
        (fun j H3 => Same HC H3 ∧ H3 R = some (.lst (((cells.map restI).take j).map V.int))) ⟨sameNew nR, upd_same⟩ (fun j H3 _ h3 => SqL.of (h3.1 _ _ eC)) ?_ ?_⟩
      · rintro j x H3 hx ⟨s3, e3⟩
        rw [List.getElem?_map] at hx
        obtain ⟨z, hz, rfl⟩ := Option.map_eq_some_iff.mp hx
        refine ⟨rfl, .int z, rfl, .int z, rfl, _, _, rfl, rfl, ⟨by decide, by decide, by decide⟩, _, _, rfl, rfl, .inr ⟨_, rfl, _, _, rfl, rfl, .inr ⟨by split <;> decide, by split <;> decide⟩, _, e3, ?_, samePut s3 nR, ?_⟩⟩
        · rw [List.length_map, List.length_take, List.length_map]; exact small (by omega)
        · rw [upd_same, List.take_add_one, List.getElem?_map, hz]; simp [restI]
      · rintro H3 ⟨s3, e3⟩
        rw [List.length_map, List.take_of_length_le (by rw [List.length_map]; exact Nat.le_refl _)] at e3
        refine ⟨(show (3 : Nat) ≤ sizeLine by decide), fun st nst => q _ st C R ((s0C.trans s3).trans (sameNew nst)) ⟨upd_same, ⟨cells, cells.map restI, upNew nst (s3 _ _ eC), upNew nst e3, by rw [List.length_map], hcl0.1, by omega, ?_⟩, ne_of_none eC nR, ?_, ?_⟩⟩
        · intro x hx
          obtain ⟨c, hc, rfl⟩ := List.mem_map.mp hx
          exact restI_nn (hnn c hc)
        · exact (ne_of_none (s3 _ _ eC) nst).symm
        · exact (ne_of_none e3 nst).symm
def spOne (K : PySem.W.Frag) : Sp := fun vs H Q _ => ∃ (st c r l : Addr) (t : Nat) (xs : List V), vs = [.ref st, .ref l] ∧ DS H st c r t ∧ t < 1000000 ∧ H l = some (.lst xs) ∧ l ≠ st ∧ l ≠ r ∧ 0 < xs.length ∧ xs.length ≤ 1000 ∧
  ∀ (H' : Hp) (j : Nat) (x : V), xs[j]? = some x → DS H' st c r (t + 1) → Ext st r H H' → Q x H'
theorem ok_one {f fD : Addr} {fd fdD : FuncData} {k : Nat} (F : Fun K "_law_one" "_law_one" sOne f fd)
    (FD : Fun K "_law_next" "_law_next" sDraw fD fdD) (bD : Binds K fdD ["_law_deck_here", "_law_many"] []) (gD : mg "_law_next" = some (.ref fD)) (GD : FnOk P w K mg base CX0 1 fD fdD ["_law_deck_here", "_law_many"] spDraw)
    (ml : mg "len" = none) : FnOk P w K mg base CX0 (1 + k + 1) f fd ["_law_deck_here", "_law_items"] (spOne K) := by
  refine F.ok scOne (fun vs H Q E h => ?_) (fun cdv A outer s H vs Q E hr h => ?_)
  · obtain ⟨st, c, r, l, t, xs, rfl, _⟩ := h; rfl
  · obtain ⟨st, c, r, l, t, xs, rfl, hd, ht, hl, n1, n2, hp, hz, q⟩ := h
    refine ⟨_, pss_one (ps_ret (pe_ix ix_list (pv 1) (pe_call GD (hr.mono (by omega)) (by rfl) gD FD.kp bD .nil pass0 (pa_cons (pv 0) (pa_cons (pe_callB call_len_seq (by rfl) ml PySem.boot_len (pa_cons (pv 1) pa_nil)) pa_nil))) (fun _ _ => rfl))), ?_⟩
    refine ⟨.ref l, rfl, .ref st, rfl, .ref l, rfl, l, _, rfl, .inl (SqL.of hl), st, c, r, t, _, rfl, hd, ht, by omega, by omega, fun H1 d h0 h1 D1 X1 => ?_⟩
    have hj : d.toNat < xs.length := by omega
    have e : xs[d.toNat]? = some xs[d.toNat] := List.getElem?_eq_getElem hj
    refine ⟨l, xs, d, xs[d.toNat], rfl, rfl, SqL.of (X1 _ _ hl n1 n2), ?_, q _ _ _ e D1 X1⟩
    have := atI_nat e
    rwa [Int.toNat_of_nonneg h0] at this
end
end Pv

namespace Pv
open PySem PySem.Spec PyProof.Rows L2
abbrev sWhole : Stmt := topS 3
abbrev sWithin : Stmt := topS 4

theorem scWhole : FnScope ["value"] ["value"] (defScope sWhole) := ⟨rfl, rfl, rfl, by decide +kernel, rfl, by decide +kernel, by decide +kernel⟩
theorem scWithin : FnScope ["value", "least", "most"] ["value", "least", "most"] (defScope sWithin) := ⟨rfl, rfl, rfl, by decide +kernel, rfl, by decide +kernel, by decide +kernel⟩
/-! what a value is, by its data -/
def wholeD (d : PyData) : Bool := isInt d && !isBool d
def withinD (a b : Int) : PyData → Bool
  | .int i => decide (a ≤ i ∧ i ≤ b)
  | _ => false
def tupOfD (a b : Int) : PyData → Bool
  | .tuple ds => decide (a ≤ (ds.length : Int) ∧ (ds.length : Int) ≤ b)
  | _ => false
def intsAll : List PyData → Option (List Int)
  | [] => some []
  | .int i :: r => (intsAll r).map (i :: ·)
  | _ :: _ => none
def intsOf : PyData → Option (List Int)
  | .tuple ds => intsAll ds
  | _ => none
theorem intsAll_ints : ∀ row : List Int, intsAll (row.map PyData.int) = some row
  | [] => rfl
  | i :: r => by simp [intsAll, intsAll_ints r]
theorem intsAll_eq : ∀ {ds : List PyData} {row : List Int}, intsAll ds = some row → ds = row.map PyData.int
  | [], row, h => by simp [intsAll] at h; subst h; rfl
  | d :: ds, row, h => by
    cases d <;> simp [intsAll] at h
    obtain ⟨r, h1, rfl⟩ := h
    rw [intsAll_eq h1]; rfl
theorem within_ints : ∀ {ds : List PyData} {a b : Int}, ds.all (withinD a b) = true → ∃ row : List Int, ds = row.map PyData.int ∧ row.all (fun x => decide (a ≤ x ∧ x ≤ b)) = true
  | [], _, _, _ => ⟨[], rfl, rfl⟩
  | d :: ds, a, b, h => by
    rw [List.all_cons, Bool.and_eq_true] at h
    obtain ⟨row, e, h2⟩ := within_ints h.2
    cases d with
    | int i => exact ⟨i :: row, by rw [e]; rfl, by rw [List.all_cons, Bool.and_eq_true]; exact ⟨h.1, h2⟩⟩
    | _ => simp [withinD] at h
section
variable {P : Program} {w : World} {K : PySem.W.Frag} {mg : Str → Option Value} {base : Heap}
def spWhole (K : PySem.W.Frag) : Sp := fun vs H Q _ => ∃ (st r : Addr) (v : V) (d : PyData), vs = [v] ∧ Dq K st r H v d ∧ Q (.bl (wholeD d)) H
theorem ok_whole {f : Addr} {fd : FuncData} {k : Nat} (F : Fun K "is_whole" "is_whole" sWhole f fd) (mi : mg "isinstance" = none) (mint : mg "int" = none) (mb : mg "bool" = none) :
    FnOk P w K mg base CX0 (k + 1) f fd ["value"] (spWhole K) := by
  refine F.ok scWhole (fun vs H Q E h => ?_) (fun cdv A outer s H vs Q E hr h => ?_)
  · obtain ⟨st, r, v, d, rfl, _⟩ := h; rfl
  · obtain ⟨st, r, v, d, rfl, hd, q⟩ := h
    refine ⟨_, pss_one (ps_ret (pe_and (pe_callB call_isi (by rfl) mi (by decide +kernel) (pa_cons (pv 0) (pa_cons (pe_bltn (v := .ty "int") (by rfl) mint (by decide +kernel) rfl) pa_nil)))
      (pe_one (pe_not (pe_callB call_isi (by rfl) mi (by decide +kernel) (pa_cons (pv 0) (pa_cons (pe_bltn (v := .ty "bool") (by rfl) mb (by decide +kernel) rfl) pa_nil))))))), ?_⟩
    refine ⟨v, rfl, v, .ty "int", _, _, _, rfl, .ty _, hd.ty, kit_int d, _, rfl, ite2 (fun h1 => ?_) (fun h1 => ?_)⟩
    · refine ⟨v, rfl, v, .ty "bool", _, _, _, rfl, .ty _, hd.ty, kit_bool d, _, rfl, ?_⟩
      unfold wholeD at q
      rw [h1, Bool.true_and] at q
      exact q
    · unfold wholeD at q
      rw [Bool.eq_false_iff.mpr h1, Bool.false_and] at q
      exact q
def spWithin (K : PySem.W.Frag) : Sp := fun vs H Q _ => ∃ (st r : Addr) (v : V) (d : PyData) (a b : Int), vs = [v, .int a, .int b] ∧ Dq K st r H v d ∧ Q (.bl (withinD a b d)) H
theorem ok_within {f fW : Addr} {fd fdW : FuncData} {k : Nat} (F : Fun K "is_within" "is_within" sWithin f fd) (FW : Fun K "is_whole" "is_whole" sWhole fW fdW) (bW : Binds K fdW ["value"] []) (gW : mg "is_whole" = some (.ref fW))
    (GW : FnOk P w K mg base CX0 1 fW fdW ["value"] (spWhole K)) : FnOk P w K mg base CX0 (1 + k + 1) f fd ["value", "least", "most"] (spWithin K) := by
  refine F.ok scWithin (fun vs H Q E h => ?_) (fun cdv A outer s H vs Q E hr h => ?_)
  · obtain ⟨st, r, v, d, a, b, rfl, _⟩ := h; rfl
  · obtain ⟨st, r, v, d, a, b, rfl, hd, q⟩ := h
    refine ⟨_, pss_one (ps_ret (pe_and (pe_call GW (hr.mono (by omega)) (by rfl) gW FW.kp bW .nil pass0 (pa_cons (pv 0) pa_nil)) (pe_one (pe_chain op_le op_le (pv 1) (pv 0) (pv 2))))), ?_⟩
    refine ⟨v, rfl, st, r, v, d, rfl, hd, _, rfl, ite2 (fun h1 => ?_) (fun h1 => ?_)⟩
    · cases d with
      | int i =>
        cases hd
        refine ⟨.int a, rfl, .int i, rfl, _, _, rfl, rfl, _, rfl, ite2 (fun h2 => ?_) (fun h2 => ?_)⟩
        · refine ⟨.int b, rfl, _, _, rfl, rfl, ?_⟩
          have h2' : a ≤ i := of_decide_eq_true h2
          simpa [withinD, h2'] using q
        · have h2' : ¬ a ≤ i := fun z => h2 (decide_eq_true z)
          simpa [withinD, h2'] using q
      | _ => simp [wholeD, isInt, isBool] at h1
    · cases d with
      | int i => simp [wholeD, isInt, isBool] at h1
      | _ => exact q
def spTupOf (K : PySem.W.Frag) : Sp := fun vs H Q _ => ∃ (st r : Addr) (v : V) (d : PyData) (a b : Int), vs = [v, .int a, .int b] ∧ Dq K st r H v d ∧ Q (.bl (tupOfD a b d)) H
end
end Pv

namespace Pv
open PySem PySem.Spec PyProof.Rows L2
abbrev sMix : Stmt := topS 23
abbrev sAmo : Stmt := topS 24
theorem scMix : FnScope ["_law_deck_here", "_law_items", "_law_left", "_law_found"] ["_law_deck_here", "_law_items"] (defScope sMix) := ⟨rfl, rfl, rfl, by decide +kernel, rfl, by decide +kernel, by decide +kernel⟩
theorem scAmo : FnScope ["_law_deck_here", "_law_far", "_law_near"] ["_law_deck_here", "_law_far"] (defScope sAmo) := ⟨rfl, rfl, rfl, by decide +kernel, rfl, by decide +kernel, by decide +kernel⟩
theorem lay_ints : ∀ ns : List Int, PyData.canLayAll0 (ns.map PyData.int) = true
  | [] => by simp [PyData.canLayAll0]
  | n :: ns => by simp [PyData.canLayAll0, PyData.canLay0, lay_ints ns]
theorem dep_ints : ∀ ns : List Int, PyData.depthAll (ns.map PyData.int) = 0
  | [] => by simp [PyData.depthAll]
  | n :: ns => by simp [PyData.depthAll, PyData.depth, dep_ints ns]
theorem shaped_ints (ns : List Int) : SeqAt.shaped (.list (ns.map PyData.int)) = true := by
  show (PyData.canLay0 (.list (ns.map PyData.int)) && decide (PyData.depth (.list (ns.map PyData.int)) ≤ 64)) = true
  rw [Bool.and_eq_true]
  refine ⟨by simp only [PyData.canLay0]; exact lay_ints ns, decide_eq_true ?_⟩
  simp only [PyData.depth, dep_ints]; omega
theorem eqv_empty (ds : List PyData) : PyData.eqv (.list ds) (.list []) = ds.isEmpty := by
  cases ds <;> simp [PyData.eqv, PyData.eqvAll]
section
variable {P : Program} {w : World} {K : PySem.W.Frag} {mg : Str → Option Value} {base : Heap}
theorem perm_erase : ∀ (l : List Int) (k : Nat) (h : k < l.length), (l[k] :: l.eraseIdx k).Perm l
  | [], _, h => by simp at h
  | a :: l, 0, _ => by simp
  | a :: l, k + 1, h => by
    have ih := perm_erase l k (by simpa using h)
    simp only [List.getElem_cons_succ, List.eraseIdx_cons_succ]
    exact (List.Perm.swap _ _ _).trans (List.Perm.cons _ ih)
theorem nodup_step {ms l : List Int} {k : Nat} (h : k < l.length) (hn : (ms ++ l).Nodup) : ((ms ++ [l[k]]) ++ l.eraseIdx k).Nodup := by
  rw [List.append_assoc]
  exact (List.Perm.append_left ms (perm_erase l k h)).symm.nodup hn
def spMix (K : PySem.W.Frag) : Sp := fun vs H Q _ => ∃ (st c r l : Addr) (t : Nat) (ns : List Int), vs = [.ref st, .ref l] ∧ DS H st c r t ∧ t + 50 ≤ 1000000 ∧ H l = some (.lst (ns.map V.int)) ∧ ns.length ≤ 50 ∧
  ∀ (H' : Hp) (p : Addr) (ms : List Int), (∀ x ∈ ms, x ∈ ns) → (ns.Nodup → ms.Nodup) → ms.length = ns.length → H' p = some (.lst (ms.map V.int)) → p ≠ st → p ≠ c → p ≠ r → DS H' st c r (t + ns.length) → Ext st r H H' → Q (.ref p) H'
set_option maxHeartbeats 2000000 in
theorem ok_mix {f fD : Addr} {fd fdD : FuncData} {k : Nat} (F : Fun K "_law_mixed" "_law_mixed" sMix f fd)
    (FD : Fun K "_law_next" "_law_next" sDraw fD fdD) (bD : Binds K fdD ["_law_deck_here", "_law_many"] []) (gD : mg "_law_next" = some (.ref fD)) (GD : FnOk P w K mg base CX0 1 fD fdD ["_law_deck_here", "_law_many"] spDraw)
    (mli : mg "list" = none) (ml : mg "len" = none) : FnOk P w K mg base CX0 (1 + k + 1) f fd ["_law_deck_here", "_law_items"] (spMix K) := by
  refine F.ok scMix (fun vs H Q E h => ?_) (fun cdv A outer s H vs Q E hr h => ?_)
  · obtain ⟨st, c, r, l, t, ns, rfl, _⟩ := h; rfl
  · obtain ⟨st, c, r, l, t, ns, rfl, hd, ht, hl, hn, q⟩ := h
    have hu64 : (A.deeper (envOfC "_law_mixed" (defScope sMix) s.heap.objs.size f cdv)).units + 64 < cLine := by have := hr.un; omega
    refine ⟨_, pss_cons (ps_par (i := 2) (j := 3) rfl scMix.nd rfl rfl (by decide) rfl rfl (pa_cons (pe_callTy call_list_of (by rfl) mli (by decide +kernel) (pa_cons (pv 1) pa_nil)) (pa_cons (pe_lst pa_nil) pa_nil)) rfl)
      (pss_cons (ps_while PassesOwn.never (pt_cmpR (op_neD hu64) (pv 2) (pe_lst pa_nil) (nomark _))
        (pss_one (ps_expr (pe_bm PySem.F.plainAttrs_list PySem.F.slot_list_append PySem.F.type_list_append mt_append (pv 3) (pa_cons
          (pe_bm PySem.F.plainAttrs_list PySem.F.slot_list_pop PySem.F.type_list_pop mt_popAt (pv 2) (pa_cons (pe_call GD (hr.mono (by omega)) (by rfl) gD FD.kp bD .nil pass0 (pa_cons (pv 0) (pa_cons (pe_callB call_len_seq (by rfl) ml PySem.boot_len (pa_cons (pv 2) pa_nil)) pa_nil))) pa_nil)) pa_nil)))))
      (pss_one (ps_ret (pv 3)))), ?_⟩
    refine ⟨.ref l, rfl, l, _, rfl, .inl (SqL.of hl), fun Le nLe => ⟨Nat.zero_le _, fun Fo nFo => ⟨_, _, rfl, ?_⟩⟩⟩
    have oLe := hd.off nLe
    have d1 := hd.new nLe (o := .lst (ns.map V.int))
    have oFo := d1.off nFo
    have fFo : H Fo = none := freeOf nFo
    have nLF : Le ≠ Fo := ne_of_none upd_same nFo
    refine ⟨fun m σ H2 => ∃ (ls ms : List Int) (t2 : Nat), σ = [some (.ref st), some (.ref l), some (.ref Le), some (.ref Fo)] ∧ ls.length = m ∧ DS H2 st c r t2 ∧ t2 = t + ms.length ∧ Ext st r H H2 ∧
        H2 Le = some (.lst (ls.map V.int)) ∧ H2 Fo = some (.lst (ms.map V.int)) ∧ ls.length + ms.length = ns.length ∧ (∀ x ∈ ls, x ∈ ns) ∧ (∀ x ∈ ms, x ∈ ns) ∧ (ns.Nodup → (ms ++ ls).Nodup),
      ⟨ns.length, ns, [], t, rfl, rfl, d1.new nFo, rfl, (Ext.of (sameNew nLe)).trans (Ext.of (sameNew nFo)), upNew nFo upd_same, upd_same, rfl, fun x h => h, fun x h => by simp at h, fun h => by simpa using h⟩, ?_⟩
    rintro m σ H2 ⟨ls, ms, t2, rfl, rfl, d2, ht2, x2, eL, eF, hlen, bl, bm, bn⟩
    refine ⟨.ref Le, rfl, Nat.zero_le _, fun p np => ⟨.list (ls.map PyData.int), .list [], .lst (SqL.of (upNew np eL)) (dp_ints ls), .lst (SqL.of upd_same) .nil, shaped_ints ls, by decide, _, rfl, ?_⟩⟩
    rw [eqv_empty]
    have oN := d2.off np
    have eL2 := upNew np (o := .lst []) eL
    have eF2 := upNew np (o := .lst []) eF
    cases ls with
    | nil =>
      have hml : ms.length = ns.length := by simpa using hlen
      have dz : DS (upd H2 p (.lst [])) st c r (t + ns.length) := by rw [← hml, ← ht2]; exact d2.new np
      exact ⟨.ref Fo, rfl, q _ Fo ms bm (fun z => by simpa using bn z) hml eF2 oFo.1 oFo.2.1 oFo.2.2 dz (x2.trans (Ext.of (sameNew np)))⟩
    | cons a ls' =>
      have hpos : 0 < (a :: ls').length := by simp
      refine ⟨fun σ' H' => ∃ (ls2 ms2 : List Int) (t2 : Nat), σ' = [some (.ref st), some (.ref l), some (.ref Le), some (.ref Fo)] ∧ ls2.length = ls'.length ∧ DS H' st c r t2 ∧ t2 = t + ms2.length ∧ Ext st r H H' ∧
        H' Le = some (.lst (ls2.map V.int)) ∧ H' Fo = some (.lst (ms2.map V.int)) ∧ ls2.length + ms2.length = ns.length ∧ (∀ x ∈ ls2, x ∈ ns) ∧ (∀ x ∈ ms2, x ∈ ns) ∧ (ns.Nodup → (ms2 ++ ls2).Nodup), ?_, ?_⟩
      · rintro σ' H' ⟨ls2, ms2, t3, e1, e2, r3⟩
        exact ⟨ls'.length, by simp, ls2, ms2, t3, e1, e2, r3⟩
      · refine ⟨.ref Fo, rfl, .inl ⟨rfl, _, SqL.of eF2⟩, .ref Le, rfl, .inl ⟨rfl, _, SqL.of eL2⟩, .ref st, rfl, .ref Le, rfl, Le, _, rfl, .inl (SqL.of eL2), st, c, r, t2, _, rfl, d2.new np, by omega, by rw [List.length_map]; omega, by rw [List.length_map]; omega, fun H3 d h0 h1 D3 X3 => ?_⟩
        have eL3 := X3 _ _ eL2 oLe.1 oLe.2.2
        have eF3 := X3 _ _ eF2 oFo.1 oFo.2.2
        rw [List.length_map] at h1
        have hk : d.toNat < (a :: ls').length := by omega
        have eF4 : (upd H3 Le (.lst (((a :: ls').map V.int).eraseIdx d.toNat))) Fo = some (.lst (ms.map V.int)) := by rw [upd_ne nLF.symm]; exact eF3
        refine ⟨Le, _, d, d.toNat, .int (a :: ls')[d.toNat], rfl, rfl, eL3, by omega, by simp at hlen h1; omega, seqIndex_of h0 (by rw [List.length_map]; exact h1), by rw [List.getElem?_map, List.getElem?_eq_getElem hk]; rfl, Fo, _, _, rfl, rfl, eF4, ?_, ?_⟩
        · rw [List.length_map]; exact small (by simp at hlen; omega)
        refine ⟨(a :: ls').eraseIdx d.toNat, ms ++ [(a :: ls')[d.toNat]], t2 + 1, rfl, ?_, (D3.put oLe.1 oLe.2.1 oLe.2.2).put oFo.1 oFo.2.1 oFo.2.2, by simp; omega, ExtPut (ExtPut ((x2.trans (Ext.of (sameNew np))).trans X3) nLe) fFo, ?_, ?_, ?_, ?_, ?_, fun z => nodup_step hk (bn z)⟩
        · rw [List.length_eraseIdx_of_lt hk]; simp
        · rw [upd_ne nLF, upd_same, erase_map]
        · rw [upd_same, List.map_append]; rfl
        · rw [List.length_eraseIdx_of_lt hk]; simp at hlen ⊢; omega
        · exact fun x hx => bl x (List.mem_of_mem_eraseIdx hx)
        · intro x hx
          rw [List.mem_append] at hx
          rcases hx with h | h
          · exact bm x h
          · simp only [List.mem_singleton] at h; rw [h]; exact bl _ (List.getElem_mem hk)
def spAmo (K : PySem.W.Frag) : Sp := fun vs H Q _ => ∃ (st c r : Addr) (t : Nat) (far : Int), vs = [.ref st, .int far] ∧ DS H st c r t ∧ t + 10 ≤ 1000000 ∧
  ∀ (H' : Hp) (d : Int) (t' : Nat), 1 ≤ d → d ≤ 10 ^ 12 → DS H' st c r t' → t' ≤ t + 5 → Ext st r H H' → Q (.int d) H'
set_option maxHeartbeats 2000000 in
theorem ok_amo {f fD fO : Addr} {fd fdD fdO : FuncData} {k : Nat} (F : Fun K "_law_amount" "_law_amount" sAmo f fd)
    (FD : Fun K "_law_next" "_law_next" sDraw fD fdD) (bD : Binds K fdD ["_law_deck_here", "_law_many"] []) (gD : mg "_law_next" = some (.ref fD)) (GD : FnOk P w K mg base CX0 1 fD fdD ["_law_deck_here", "_law_many"] spDraw)
    (FO : Fun K "_law_one" "_law_one" sOne fO fdO) (bO : Binds K fdO ["_law_deck_here", "_law_items"] []) (gO : mg "_law_one" = some (.ref fO)) (GO : FnOk P w K mg base CX0 2 fO fdO ["_law_deck_here", "_law_items"] (spOne K)) :
    FnOk P w K mg base CX0 (2 + k + 1) f fd ["_law_deck_here", "_law_far"] (spAmo K) := by
  refine F.ok scAmo (fun vs H Q E h => ?_) (fun cdv A outer s H vs Q E hr h => ?_)
  · obtain ⟨st, c, r, t, far, rfl, _⟩ := h; rfl
  · obtain ⟨st, c, r, t, far, rfl, hd, ht, q⟩ := h
    refine ⟨_, pss_cons (ps_if (pt_cmpR op_eq (pv 1) pe_int (nomark _)) (pss_one (ps_ret (pe_op op_add pe_int (pe_call GD (hr.mono (by omega)) (by rfl) gD FD.kp bD .nil pass0 (pa_cons (pv 0) (pa_cons
          (pe_call GO (hr.mono (by omega)) (by rfl) gO FO.kp bO .nil pass0 (pa_cons (pv 0) (pa_cons (pe_lst (pa_cons pe_int (pa_cons pe_int (pa_cons pe_int pa_nil)))) pa_nil))) pa_nil)))))) pss_nil)
      (pss_cons (ps_set (i := 2) scAmo.nd rfl (.inl rfl) (pe_op op_sub (pe_op op_pow pe_int pe_int) (pe_call GD (hr.mono (by omega)) (by rfl) gD FD.kp bD .nil pass0 (pa_cons (pv 0) (pa_cons pe_int pa_nil)))))
      (pss_one (ps_ret (pe_call GO (hr.mono (by omega)) (by rfl) gO FO.kp bO .nil pass0 (pa_cons (pv 0) (pa_cons (pe_lst (pa_cons (pe_op op_add pe_int (pe_call GD (hr.mono (by omega)) (by rfl) gD FD.kp bD .nil pass0 (pa_cons (pv 0) (pa_cons pe_int pa_nil))))
        (pa_cons (pe_op op_pow pe_int pe_int) (pa_cons (pv 2) (pa_cons (pe_op op_add pe_int (pe_call GD (hr.mono (by omega)) (by rfl) gD FD.kp bD .nil pass0 (pa_cons (pv 0) (pa_cons (pe_op op_pow pe_int pe_int) pa_nil)))) pa_nil))))) pa_nil)))))), ?_⟩
    refine ⟨.int far, rfl, rfl, _, rfl, ite2 (fun h1 => ?_) (fun h1 => ?_)⟩
    · refine ⟨.ref st, rfl, .ref st, rfl, (show (3 : Nat) ≤ sizeLine by decide), fun L nL => ⟨st, c, r, L, t, _, rfl, hd.new nL, by omega, upd_same, (hd.off nL).1, (hd.off nL).2.2, by decide, by decide, fun H1 j x hx D1 X1 => ?_⟩⟩
      obtain ⟨m, rfl, hm1, hm2⟩ : ∃ m : Int, x = .int m ∧ 1 ≤ m ∧ m ≤ 9 := by
        match j, hx with
        | 0, hx => cases hx; exact ⟨2, rfl, by decide, by decide⟩
        | 1, hx => cases hx; exact ⟨3, rfl, by decide, by decide⟩
        | 2, hx => cases hx; exact ⟨9, rfl, by decide, by decide⟩
        | n + 3, hx => simp at hx
      refine ⟨st, c, r, t + 1, m, rfl, D1, by omega, by omega, by omega, fun H2 d h0 h2 D2 X2 => ⟨_, _, rfl, rfl, ?_⟩⟩
      exact q _ _ (t + 2) (by omega) (by omega) D2 (by omega) (((Ext.of (sameNew nL)).trans X1).trans X2)
    · refine ⟨_, _, rfl, rfl, ⟨by decide, by decide, by decide⟩, .ref st, rfl, st, c, r, t, _, rfl, hd, by omega, by decide, by decide, fun H1 d1 h10 h11 D1 X1 => ⟨_, _, rfl, rfl, ?_⟩⟩
      refine ⟨.ref st, rfl, .ref st, rfl, st, c, r, t + 1, _, rfl, D1, by omega, by decide, by decide, fun H2 d2 h20 h21 D2 X2 => ⟨_, _, rfl, rfl, ?_⟩⟩
      refine ⟨_, _, rfl, rfl, ⟨by decide, by decide, by decide⟩, _, rfl, .ref st, rfl, _, _, rfl, rfl, ⟨by decide, by decide, by decide⟩, st, c, r, t + 2, _, rfl, D2, by omega, by decide, by decide, fun H3 d3 h30 h31 D3 X3 => ⟨_, _, rfl, rfl, ?_⟩⟩
      refine ⟨(show (4 : Nat) ≤ sizeLine by decide), fun L nL => ⟨st, c, r, L, t + 3, _, rfl, D3.new nL, by omega, upd_same, (D3.off nL).1, (D3.off nL).2.2, (show (0 : Nat) < 4 by decide), (show (4 : Nat) ≤ 1000 by decide), fun H4 j x hx D4 X4 => ?_⟩⟩
      have XX : Ext st r H H4 := (((X1.trans X2).trans X3).trans (Ext.of (sameNew nL))).trans X4
      have t12 : (10 : Int) ^ (12 : Int).toNat = 1000000000000 := by decide
      match j, hx with
      | 0, hx => cases hx; exact q _ _ (t + 4) (by omega) (by omega) D4 (by omega) XX
      | 1, hx => cases hx; exact q _ _ (t + 4) (by decide) (by decide) D4 (by omega) XX
      | 2, hx => cases hx; exact q _ _ (t + 4) (by rw [t12]; omega) (by rw [t12]; omega) D4 (by omega) XX
      | 3, hx => cases hx; rw [t12] at h31; exact q _ _ (t + 4) (by omega) (by omega) D4 (by omega) XX
      | n + 4, hx => simp at hx
end
end Pv

namespace Pv
open PySem PySem.Spec PyProof.Rows L2
abbrev sInst : Stmt := topS 25
theorem scInst : FnScope ["_law_deck_here", "_law_posts", "_law_groups", "_law_far", "_law_many", "_law_rows", "_law_k", "_law_wish", "_law_sizes", "_law_post", "_law_near", "_law_count"] ["_law_deck_here", "_law_posts", "_law_groups", "_law_far"] (defScope sInst) := ⟨rfl, rfl, rfl, by decide +kernel, rfl, by decide +kernel, by decide +kernel⟩
theorem upTo_nodup (n : Nat) : (upTo n).Nodup := by
  unfold upTo
  show List.Pairwise _ _
  rw [List.pairwise_map]
  exact List.Pairwise.imp (fun h hab => h (Int.ofNat.inj hab)) (List.nodup_range (n := n))
theorem lay_grps : ∀ gs : List Gp, PyData.canLayAll0 (gs.map dGrp) = true ∧ PyData.depthAll (gs.map dGrp) ≤ 2
  | [] => by simp [PyData.canLayAll0, PyData.depthAll]
  | g :: gs => by
    obtain ⟨h1, h2⟩ := lay_grps gs
    have l := lay_ints g.1
    have d := dep_ints g.1
    constructor
    · simp [PyData.canLayAll0, PyData.canLay0, dGrp, dI, l, h1]
    · simp only [List.map_cons, PyData.depthAll, PyData.depth, dGrp, dI, d]
      omega
theorem shaped_grps (gs : List Gp) : SeqAt.shaped (.list (gs.map dGrp)) = true := by
  obtain ⟨h1, h2⟩ := lay_grps gs
  show (PyData.canLay0 (.list (gs.map dGrp)) && decide (PyData.depth (.list (gs.map dGrp)) ≤ 64)) = true
  rw [Bool.and_eq_true]
  refine ⟨by simp only [PyData.canLay0]; exact h1, decide_eq_true ?_⟩
  simp only [PyData.depth]; omega
theorem shaped_dI (ns : List Int) : SeqAt.shaped (dI ns) = true := by
  show (PyData.canLay0 (dI ns) && decide (PyData.depth (dI ns) ≤ 64)) = true
  rw [Bool.and_eq_true]
  refine ⟨by simp only [dI, PyData.canLay0]; exact lay_ints ns, decide_eq_true ?_⟩
  simp only [dI, PyData.depth, dep_ints]; omega
theorem eqv_ints : ∀ a b : List Int, PyData.eqv (dI a) (dI b) = decide (a = b)
  | [], [] => by simp [dI, PyData.eqv, PyData.eqvAll]
  | [], y :: b => by simp [dI, PyData.eqv, PyData.eqvAll]
  | x :: a, [] => by simp [dI, PyData.eqv, PyData.eqvAll]
  | x :: a, y :: b => by
    have ih := eqv_ints a b
    simp only [dI, PyData.eqv] at ih
    simp only [dI, PyData.eqv, List.map_cons, PyData.eqvAll, ih]
    by_cases h1 : x = y
    · subst h1; simp
    · simp [h1]
section
variable {P : Program} {w : World} {K : PySem.W.Frag} {mg : Str → Option Value} {base : Heap}
/-- wish[:1] == (post,): the list's first -/
theorem first_eq {H : Hp} {a : Addr} {ps : List Int} (hP : SqT K H a (ps.map V.int)) {Q : VK} (h : ∀ (H' : Hp) (b : Addr), Same H H' → SqT K H' b ((ps.take 1).map V.int) → Q (.ref b) H') : rSlA K (.ref a) none (some 1) H Q := by
  have hcut : cutV (ps.map V.int) none (some 1) = (ps.take 1).map V.int := by rw [List.map_take]; exact cut_to _ 1
  refine ⟨a, _, rfl, hP, fun hw => ?_, fun _ p np => ?_⟩
  · refine h H a (Same.refl _) ?_
    have e : (ps.take 1).map V.int = ps.map V.int := by
      rw [← hcut]
      unfold cutV
      rw [hw.1, hw.2, List.drop_zero, Nat.sub_zero, List.take_length]
    rw [e]; exact hP
  · refine h _ p (sameNew np) (SqT.of ?_)
    rw [upd_same, hcut]
def spInst (K : PySem.W.Frag) : Sp := fun vs H Q _ => ∃ (st c r : Addr) (t : Nat) (pm gm far : Int), vs = [.ref st, .int pm, .int gm, .int far] ∧ DS H st c r t ∧ t + 500 ≤ 1000000 ∧ (1 ≤ pm ∧ pm ≤ 6) ∧ 1 ≤ gm ∧ gm ≤ 10 ∧
  ∀ (H' : Hp) (p : Addr) (t' : Nat) (cs : List Int) (gs : List Gp), DS H' st c r t' → t' ≤ t + 500 → Ext st r H H' → InsT K H' p cs gs → InsOk cs gs → (∀ g ∈ gs, g.1.Nodup) → Q (.ref p) H'
set_option maxHeartbeats 8000000 in
theorem ok_inst {f fD fO fM fA : Addr} {fd fdD fdO fdM fdA : FuncData} {k : Nat} (F : Fun K "_law_instance" "_law_instance" sInst f fd)
    (FD : Fun K "_law_next" "_law_next" sDraw fD fdD) (bD : Binds K fdD ["_law_deck_here", "_law_many"] []) (gD : mg "_law_next" = some (.ref fD)) (GD : FnOk P w K mg base CX0 1 fD fdD ["_law_deck_here", "_law_many"] spDraw)
    (FO : Fun K "_law_one" "_law_one" sOne fO fdO) (bO : Binds K fdO ["_law_deck_here", "_law_items"] []) (gO : mg "_law_one" = some (.ref fO)) (GO : FnOk P w K mg base CX0 2 fO fdO ["_law_deck_here", "_law_items"] (spOne K))
    (FM : Fun K "_law_mixed" "_law_mixed" sMix fM fdM) (bM : Binds K fdM ["_law_deck_here", "_law_items"] []) (gM : mg "_law_mixed" = some (.ref fM)) (GM : FnOk P w K mg base CX0 2 fM fdM ["_law_deck_here", "_law_items"] (spMix K))
    (FA : Fun K "_law_amount" "_law_amount" sAmo fA fdA) (bA : Binds K fdA ["_law_deck_here", "_law_far"] []) (gA : mg "_law_amount" = some (.ref fA)) (GA : FnOk P w K mg base CX0 3 fA fdA ["_law_deck_here", "_law_far"] (spAmo K))
    (mt : mg "tuple" = none) (mr : mg "range" = none) (mli : mg "list" = none) (ms : mg "sum" = none) (mmx : mg "max" = none) (mmn : mg "min" = none) :
    FnOk P w K mg base CX0 (3 + k + 1) f fd ["_law_deck_here", "_law_posts", "_law_groups", "_law_far"] (spInst K) := by
  refine F.ok scInst (fun vs H Q E h => ?_) (fun cdv A outer s H vs Q E hr h => ?_)
  · obtain ⟨st, c, r, t, pm, gm, m, rfl, _⟩ := h; rfl
  · obtain ⟨st, c, r, t, pm, gm, far, rfl, hd, ht, hpm, hgm1, hgm2, q⟩ := h
    have hu64 : (A.deeper (envOfC "_law_instance" (defScope sInst) s.heap.objs.size f cdv)).units + 64 < cLine := by have := hr.un; omega
    refine ⟨_, pss_cons (ps_set (i := 4) scInst.nd rfl (.inl rfl) (pe_op op_add pe_int (pe_call GD (hr.mono (by omega)) (by rfl) gD FD.kp bD .nil pass0 (pa_cons (pv 0) (pa_cons (pv 1) pa_nil)))))
      (pss_cons (ps_set (i := 5) scInst.nd rfl (.inl rfl) (pe_lst pa_nil))
      (pss_cons (ps_for PassesOwn.never rfl (pi_range1 (by rfl) mr (pa_cons (pe_op op_add pe_int (pe_call GD (hr.mono (by omega)) (by rfl) gD FD.kp bD .nil pass0 (pa_cons (pv 0) (pa_cons (pv 2) pa_nil)))) pa_nil)) (pg_name (i := 6) scInst.nd rfl (.inl rfl))
        (pss_cons (ps_set (i := 7) scInst.nd rfl (.inl rfl) (pe_slice sl_list (pe_call GM (hr.mono (by omega)) (by rfl) gM FM.kp bM .nil pass0 (pa_cons (pv 0) (pa_cons (pe_listRg rfl (by rfl) mli (prg_1 (by rfl) mr (pv 4))) pa_nil))) po_none
            (po_some (pe_call GD (hr.mono (by omega)) (by rfl) gD FD.kp bD .nil pass0 (pa_cons (pv 0) (pa_cons (pe_op op_add (pv 4) pe_int) pa_nil))))))
        (C8.pss_cut (ps_if (PW.pt (pw_and (pt_cmpR (op_neD hu64) (pv 5) (pe_lst pa_nil) (nomark _)) (pw_and1 (pt_cmpR op_eq (pe_call GD (hr.mono (by omega)) (by rfl) gD FD.kp bD .nil pass0 (pa_cons (pv 0) (pa_cons pe_int pa_nil))) pe_int (nomark _)))))
            (pss_one (ps_set (i := 7) scInst.nd rfl (.inl rfl) (pe_callTy call_list_of (by rfl) mli (by decide +kernel) (pa_cons (pe_ix ix_tup (pe_call GO (hr.mono (by omega)) (by rfl) gO FO.kp bO .nil pass0 (pa_cons (pv 0) (pa_cons (pv 5) pa_nil))) pe_int (fun _ _ => rfl)) pa_nil)))) pss_nil)
        (pss_one (ps_expr (pe_bm PySem.F.plainAttrs_list PySem.F.slot_list_append PySem.F.type_list_append mt_append (pv 5) (pa_cons (pe_tup (pa_cons (pe_callTy call_tuple_of (by rfl) mt (by decide +kernel) (pa_cons (pv 7) pa_nil))
          (pa_cons (pe_call GA (hr.mono (by omega)) (by rfl) gA FA.kp bA .nil pass0 (pa_cons (pv 0) (pa_cons (pv 3) pa_nil))) pa_nil))) pa_nil)))))))
      (pss_cons (ps_set (i := 8) scInst.nd rfl (.inl rfl) (pe_lst pa_nil))
      (pss_cons (ps_for PassesOwn.never rfl (pi_range1 (by rfl) mr (pa_cons (pv 4) pa_nil)) (pg_name (i := 9) scInst.nd rfl (.inr rfl))
        (pss_cons (ps_set (i := 10) scInst.nd rfl (.inl rfl) (pe_op op_sub (pe_op op_add (pe_callB (cr_sum rfl) (by rfl) ms (by decide +kernel) (pa_cons
            (pe_lc (own := [("_law_wish", 7), ("_law_count", 11)]) (g := gTup K 2 (gCons (gName 7) (gCons (gName 11) gNil))) (tt := tTest (tOp (rEqD K) (tSl (rSlA K) (tVar 7) tNoPart (tPart (tC (.int 1)))) (tTup (tCons (tVar 9) tNil)))) (te := tVar 11) rfl scInst.nd (pi_list (pv 5))
              (blkOk_by (N := ["_law_deck_here", "_law_posts", "_law_groups", "_law_far", "_law_many", "_law_rows", "_law_k", "_law_wish", "_law_sizes", "_law_post", "_law_near", "_law_count"]) (sc := defScope sInst) (by decide +kernel))
              (fun _ _ _ _ _ => pg_tup rfl (pgs_cons (pg_name (i := 7) scInst.nd rfl (.inl rfl)) (pgs_cons (pg_name (i := 11) scInst.nd rfl (.inl rfl)) pgs_nil)))
              (fun _ _ _ _ _ => pts_one (pt_cmpR (op_eqD hu64) (pe_slice sl_tupA (pv 7) po_none (po_some pe_int)) (pe_tup (pa_cons (pv 9) pa_nil)) (nomark _)))
              (fun _ _ _ _ _ => pv 11)) pa_nil))
            (pe_call GD (hr.mono (by omega)) (by rfl) gD FD.kp bD .nil pass0 (pa_cons (pv 0) (pa_cons pe_int pa_nil)))) pe_int))
        (pss_one (ps_expr (pe_bm PySem.F.plainAttrs_list PySem.F.slot_list_append PySem.F.type_list_append mt_append (pv 8) (pa_cons (pe_call GO (hr.mono (by omega)) (by rfl) gO FO.kp bO .nil pass0 (pa_cons (pv 0) (pa_cons
            (pe_lst (pa_cons (pe_call GA (hr.mono (by omega)) (by rfl) gA FA.kp bA .nil pass0 (pa_cons (pv 0) (pa_cons (pv 3) pa_nil))) (pa_cons (pe_callB (call_max2 rfl) (by rfl) mmx (by decide +kernel) (pa_cons pe_int (pa_cons
              (pe_callB (call_min2 rfl) (by rfl) mmn (by decide +kernel) (pa_cons (pe_op op_pow pe_int pe_int) (pa_cons (pv 10) pa_nil))) pa_nil))) pa_nil))) pa_nil))) pa_nil))))))
      (pss_one (ps_ret (pe_tup (pa_cons (pe_callTy call_tuple_of (by rfl) mt (by decide +kernel) (pa_cons (pv 8) pa_nil)) (pa_cons (pe_callTy call_tuple_of (by rfl) mt (by decide +kernel) (pa_cons (pv 5) pa_nil)) pa_nil))))))))), ?_⟩
    refine ⟨.ref st, rfl, .int pm, rfl, st, c, r, t, _, rfl, hd, by omega, by omega, by omega, fun H1 d1 h10 h11 D1 X1 => ⟨_, _, rfl, rfl, ?_⟩⟩
    obtain ⟨n, hn⟩ : ∃ n : Nat, 1 + d1 = (n : Int) := ⟨(1 + d1).toNat, by omega⟩
    have hn6 : 1 ≤ n ∧ n ≤ 6 := by omega
    dsimp only
    rw [hn]
    refine ⟨Nat.zero_le _, fun Rw nRw => ?_⟩
    have oRw := D1.off nRw
    have fRw := X1.nil D1 nRw
    have D1' := D1.new nRw (o := .lst [])
    refine ⟨.ref st, rfl, .int gm, rfl, st, c, r, t + 1, _, rfl, D1', by omega, by omega, by omega, fun H2 d2 h20 h21 D2 X2 => ⟨_, _, rfl, rfl, ?_⟩⟩
    refine ⟨1 + d2, rfl, by omega, by omega, for_it (walk_range (lo := 0) (n := (1 + d2).toNat))
      (fun i σ H4 => ∃ (y6 y7 : Option V) (t4 : Nat) (vs : List V) (gs : List Gp), σ = [some (.ref st), some (.int pm), some (.int gm), some (.int far), some (.int n), some (.ref Rw), y6, y7, none, none, none, none] ∧ DS H4 st c r t4 ∧ t4 ≤ t + 2 + 20 * i ∧ Ext st r H H4 ∧
        H4 Rw = some (.lst vs) ∧ PtAll H4 vs gs ∧ gs.length = i ∧ ∀ g ∈ gs, g.1.length ≤ 6 ∧ (∀ p ∈ g.1, 0 ≤ p ∧ p < (n : Int)) ∧ (1 ≤ g.2 ∧ g.2 ≤ 10 ^ 12) ∧ g.1.Nodup)
      ⟨none, none, t + 2, [], [], rfl, D2, by omega, (X1.trans (Ext.of (sameNew nRw))).trans X2, X2 _ _ upd_same oRw.1 oRw.2.2, .nil, rfl, fun g h => by simp at h⟩ (fun _ _ _ _ _ => trivial) ?_ ?_⟩
    · rintro i v σ H4 H4' hlt ⟨y6, y7, t4, vs, gs, rfl, d4, ht4, x4, eR, hpt, lgs, bgs⟩ ⟨rfl, rfl⟩
      have hvs := PtAll.dp (K := K) hpt
      have hi10 : i < 10 := by omega
      have hvl : vs.length = i := by rw [DpAll.len hvs, List.length_map, lgs]
      -- wish
      refine ⟨.ref st, rfl, .int n, rfl, n, rfl, RgOk.of_le (by omega) (by omega) (by omega) (by omega), fun Lr nLr => ?_⟩
      refine ⟨st, c, r, Lr, t4, upTo n, rfl, d4.new nLr, by omega, by rw [upd_same, rgV_upTo], by rw [upTo_len]; omega, fun H5 p5 ms hms hmn hml e5 n1 n2 n3 D5 X5 => ?_⟩
      rw [upTo_len] at hml D5
      refine ⟨.ref st, rfl, .int n, rfl, _, _, rfl, rfl, st, c, r, t4 + n, _, rfl, D5, by omega, by omega, by omega, fun H6 d6 h60 h61 D6 X6 => ⟨d6, rfl, p5, _, rfl, SqL.of (X6 _ _ e5 n1 n3), fun W nW => ?_⟩⟩
      have tk45 : TupK H4' H6 := ((TupK.new nLr).trans (X5.tup (d4.new nLr))).trans (X6.tup D5)
      have x6 := ((x4.trans (Ext.of (sameNew nLr))).trans X5).trans X6
      have eR6 := X6 _ _ (X5 _ _ (upNew nLr eR) oRw.1 oRw.2.2) oRw.1 oRw.2.2
      obtain ⟨dn, rfl⟩ : ∃ dn : Nat, d6 = dn := ⟨d6.toNat, by omega⟩
      have hcut : cutV (ms.map V.int) none (some (dn : Int)) = (ms.take dn).map V.int := by rw [List.map_take]; exact cut_to _ dn
      -- the list perhaps of an earlier row
      refine ⟨fun σ' H' => ∃ (z6 : Option V) (Wa : Addr) (ws : List Int) (t7 : Nat), σ' = [some (.ref st), some (.int pm), some (.int gm), some (.int far), some (.int n), some (.ref Rw), z6, some (.ref Wa), none, none, none, none] ∧
        H' Wa = some (.lst (ws.map V.int)) ∧ ws.length ≤ 6 ∧ (∀ p ∈ ws, 0 ≤ p ∧ p < (n : Int)) ∧ ws.Nodup ∧ DS H' st c r t7 ∧ t7 ≤ t4 + 12 ∧ Ext st r H H' ∧ H' Rw = some (.lst vs) ∧ TupK H4' H', ?_, ?_⟩
      · refine ⟨.ref Rw, rfl, Nat.zero_le _, fun p np => ⟨.list (gs.map dGrp), .list [], .lst (SqL.of (upNew np (upNew nW eR6))) ((((tk45.trans (TupK.new nW)).trans (TupK.new np)).dpAll _ _ (to_grps _) hvs)), .lst (SqL.of upd_same) .nil, shaped_grps gs, by decide, _, rfl, ?_⟩⟩
        rw [eqv_empty]
        have eWp : (upd (upd H6 W (.lst (cutV (ms.map V.int) none (some (dn : Int))))) p (.lst [])) W = some (.lst ((ms.take dn).map V.int)) := upNew np (by rw [upd_same, hcut])
        have bW : ∀ x ∈ ms.take dn, 0 ≤ x ∧ x < (n : Int) := fun x hx => upTo_mem (hms x (List.mem_of_mem_take hx))
        have nW' : (ms.take dn).Nodup := (List.take_sublist dn ms).nodup (hmn (upTo_nodup n))
        have lW : (ms.take dn).length ≤ 6 := by rw [List.length_take]; omega
        have Dp' := (D6.new nW (o := .lst (cutV (ms.map V.int) none (some (dn : Int))))).new np (o := .lst [])
        have xp := (x6.trans (Ext.of (sameNew nW (o := .lst (cutV (ms.map V.int) none (some (dn : Int))))))).trans (Ext.of (sameNew np (o := .lst [])))
        have eRp := upNew np (o := .lst []) (upNew nW (o := .lst (cutV (ms.map V.int) none (some (dn : Int)))) eR6)
        have tkp := (tk45.trans (TupK.new nW (o := .lst (cutV (ms.map V.int) none (some (dn : Int)))))).trans (TupK.new np (o := .lst []))
        have oW := D6.off nW
        have hgse : gs = [] ∨ 0 < gs.length := by cases gs <;> simp
        rcases hgse with rfl | hpos
        · exact ⟨_, W, _, t4 + n + 1, rfl, eWp, lW, bW, nW', Dp', by omega, xp, eRp, tkp⟩
        · have he : (!(gs.map dGrp).isEmpty) = true := by cases gs <;> simp at hpos ⊢
          rw [he]
          refine iteT ?_
          refine ⟨.ref st, rfl, st, c, r, t4 + n + 1, _, rfl, Dp', by omega, by decide, by decide, fun H8 d8 h80 h81 D8 X8 => ⟨rfl, _, rfl, ite2 (fun h1 => ?_) (fun h1 => ?_)⟩⟩
          · have eR8 := X8 _ _ eRp oRw.1 oRw.2.2
            refine ⟨.ref st, rfl, .ref Rw, rfl, st, c, r, Rw, t4 + n + 1 + 1, vs, rfl, D8, by omega, eR8, oRw.1, oRw.2.2, by omega, by omega, fun H9 j x hx D9 X9 => ?_⟩
            obtain ⟨dd, hdd, hxd⟩ := DpAll.at hvs hx
            rw [List.getElem?_map] at hdd
            obtain ⟨g, hgi, rfl⟩ := Option.map_eq_some_iff.mp hdd
            have tk9 := (tkp.trans (X8.tup Dp')).trans (X9.tup D8)
            obtain ⟨gAd, pA, rfl, hG, hP⟩ := grp_ref (tk9.dp _ _ (to_dGrp g) hxd)
            have hb := bgs g (List.mem_of_getElem? hgi)
            refine ⟨gAd, _, 0, .ref pA, rfl, rfl, hG, atI_nat (j := 0) rfl, pA, _, rfl, .inr hP, fun W2 nW2 => ?_⟩
            exact ⟨_, W2, g.1, t4 + n + 1 + 1 + 1, rfl, upd_same, hb.1, hb.2.1, hb.2.2.2, D9.new nW2, by omega, ((xp.trans X8).trans X9).trans (Ext.of (sameNew nW2)), upNew nW2 (X9 _ _ eR8 oRw.1 oRw.2.2), tk9.trans (TupK.new nW2)⟩
          · exact ⟨_, W, _, t4 + n + 1 + 1, rfl, X8 _ _ eWp oW.1 oW.2.2, lW, bW, nW', D8, by omega, xp.trans X8, X8 _ _ eRp oRw.1 oRw.2.2, tkp.trans (X8.tup Dp')⟩
      · rintro σ' H7 ⟨z6, Wa, ws, t7, rfl, eW7, lW7, bW7, nW7, d7, ht7, x7, eR7, tk7⟩
        refine ⟨.ref Rw, rfl, .inl ⟨rfl, _, SqL.of eR7⟩, .ref Wa, rfl, Wa, _, rfl, .inl ⟨SqL.of eW7, fun Tp nTp => ?_⟩⟩
        refine ⟨.ref st, rfl, .int far, rfl, st, c, r, t7, far, rfl, d7.new nTp, by omega, fun H8 cnt t8 hc1 hc2 D8 ht8 X8 => ⟨(show (2 : Nat) ≤ sizeLine by decide), fun Gr nGr => ?_⟩⟩
        have eF8p := X8 _ _ (upNew nTp eR7) oRw.1 oRw.2.2
        have eF8 := upNew nGr (o := .tup [.ref Tp, .int cnt]) eF8p
        have tk8 := (TupK.new nTp).trans (X8.tup (d7.new nTp (o := .tup (ws.map V.int))))
        have sT : SqT K H8 Tp (ws.map V.int) := (X8.tup (d7.new nTp)).sq (SqT.of upd_same)
        have tkz : TupK H8 (upd (upd H8 Gr (.tup [.ref Tp, .int cnt])) Rw (.lst (vs ++ [.ref Gr]))) := (TupK.new nGr).trans (TupK.put eF8)
        refine ⟨Rw, vs, _, rfl, rfl, eF8, by rw [hvl]; exact small (by omega), _, _, t8, vs ++ [.ref Gr], gs ++ [(ws, cnt)], rfl, (D8.new nGr).put oRw.1 oRw.2.1 oRw.2.2, by omega, ExtPut (((x7.trans (Ext.of (sameNew nTp))).trans X8).trans (Ext.of (sameNew nGr))) fRw, upd_same, ?_, by simp [lgs], ?_⟩
        · refine PtAll.app (hpt.tk ((tk7.trans tk8).trans tkz)) (.cons (p := Tp) ?_ ?_ .nil)
          · rw [upd_ne (ne_of_none eF8p nGr).symm]
            exact upd_same
          · exact (tkz _ _).1 ((X8.tup (d7.new nTp) _ _).1 upd_same)
        · intro g hg
          rw [List.mem_append] at hg
          rcases hg with h | h
          · exact bgs g h
          · simp only [List.mem_singleton] at h
            subst h
            exact ⟨lW7, bW7, ⟨hc1, hc2⟩, nW7⟩
    · rintro σ Hr ⟨y6, y7, t4, vs, gs, rfl, d4, ht4, x4, eR, hpt, lgs, bgs⟩
      have hvs := PtAll.dp (K := K) hpt
      have hvl : vs.length = gs.length := by rw [DpAll.len hvs, List.length_map]
      -- sizes = []
      refine ⟨Nat.zero_le _, fun Sz nSz => ?_⟩
      have oSz := d4.off nSz
      have fSz := x4.nil d4 nSz
      have nRS : Rw ≠ Sz := ne_of_none eR nSz
      refine ⟨.int n, rfl, n, rfl, by omega, by omega, for_it (walk_range (lo := 0) (n := (n : Int).toNat))
        (fun j σ H5 => ∃ (z6 z7 z9 z10 : Option V) (t5 : Nat) (ls : List Int), σ = [some (.ref st), some (.int pm), some (.int gm), some (.int far), some (.int n), some (.ref Rw), z6, z7, some (.ref Sz), z9, z10, none] ∧ DS H5 st c r t5 ∧ t5 ≤ t4 + 10 * j ∧ Ext st r H H5 ∧ TupK Hr H5 ∧
          H5 Rw = some (.lst vs) ∧ H5 Sz = some (.lst (ls.map V.int)) ∧ ls.length = j ∧ ∀ x ∈ ls, 1 ≤ x ∧ x ≤ 10 ^ 12)
        ⟨_, _, none, none, t4, [], rfl, d4.new nSz, by omega, x4.trans (Ext.of (sameNew nSz)), TupK.new nSz, upNew nSz eR, upd_same, rfl, fun x h => by simp at h⟩ (fun _ _ _ _ _ => trivial) ?_ ?_⟩
      · rintro j v σ H5 H5' hltj ⟨z6, z7, z9, z10, t5, ls, rfl, d5, ht5, x5, tk5, eR5, eS5, lS5, bS5⟩ ⟨rfl, rfl⟩
        have hj6 : j < 6 := by omega
        -- near
        refine ⟨.ref Rw, rfl, Rw, rfl, ⟨_, SqL.of eR5⟩, fun D nD => lc_it (walk_list (K := K) (a := Rw) (xs := vs))
          (fun m H6 => Same H5' H6 ∧ ∃ ks : List Int, H6 D = some (.lst (ks.map V.int)) ∧ ks.length ≤ m) ⟨sameNew nD, [], upd_same, Nat.le_refl _⟩ (fun m H6 _ h6 => SqL.of (h6.1 _ _ eR5)) ?_ ?_⟩
        · rintro m x H6 H6' hltm ⟨s6, ks, e6, l6⟩ ⟨rfl, hx⟩
          obtain ⟨dd, hdd, hxd⟩ := DpAll.at hvs hx
          rw [List.getElem?_map] at hdd
          obtain ⟨g, hgi, rfl⟩ := Option.map_eq_some_iff.mp hdd
          obtain ⟨gAd, pA, rfl, hG, hP⟩ := grp_ref ((tk5.trans (TupK.of s6)).dp _ _ (to_dGrp g) hxd)
          refine ⟨gAd, _, rfl, hG, rfl, _, _, rfl, _, _, rfl, rfl, rfl, .ref pA, rfl, 1, rfl, first_eq hP (fun H7 b s7 hb => ⟨_, rfl, (show (1 : Nat) ≤ sizeLine by decide), fun p2 n2 => ⟨dI (g.1.take 1), dI [(0 : Int) + (j : Nat)], dI_sq ((TupK.new n2).sq hb), dI_sq (SqT.of upd_same), shaped_dI _, shaped_dI _, _, rfl, ite2 (fun h1 => ?_) (fun h1 => ?_)⟩⟩)⟩
          · have e8 := upNew n2 (o := .tup [.int ((0 : Int) + (j : Nat))]) (s7 _ _ e6)
            refine ⟨_, rfl, _, e8, ?_, samePut ((s6.trans s7).trans (sameNew n2)) nD, ks ++ [g.2], ?_, by simp; omega⟩
            · rw [List.length_map]; exact small (by omega)
            · rw [upd_same, List.map_append]; rfl
          · exact ⟨(s6.trans s7).trans (sameNew n2), ks, upNew n2 (s7 _ _ e6), by omega⟩
        rintro H6 ⟨s6, ks, e6, l6⟩
        have d6 := d5.same s6
        refine ⟨D, ks, rfl, SqL.of e6, .ref st, rfl, st, c, r, t5, _, rfl, d6, by omega, by decide, by decide, fun H7 d7 h70 h71 D7 X7 => ⟨_, _, rfl, rfl, _, _, rfl, rfl, ?_⟩⟩
        have x7 := (x5.trans (Ext.of s6)).trans X7
        have eS7 := X7 _ _ (s6 _ _ eS5) oSz.1 oSz.2.2
        have eR7 := X7 _ _ (s6 _ _ eR5) oRw.1 oRw.2.2
        have tk7 := (tk5.trans (TupK.of s6)).trans (X7.tup d6)
        -- sizes.append(..)
        refine ⟨.ref Sz, rfl, .inl ⟨rfl, _, SqL.of eS7⟩, .ref st, rfl, .ref st, rfl, .int far, rfl, st, c, r, t5 + 1, far, rfl, D7, by omega, fun H8 am t8 ha1 ha2 D8 ht8 X8 => ?_⟩
        refine ⟨_, _, rfl, rfl, ⟨by decide, by decide, by decide⟩, _, rfl, _, _, rfl, _, _, rfl, (show (2 : Nat) ≤ sizeLine by decide), fun L nL => ?_⟩
        have oL := D8.off nL
        refine ⟨st, c, r, L, t8, _, rfl, D8.new nL, by omega, upd_same, oL.1, oL.2.2, (show (0 : Nat) < 2 by decide), (show (2 : Nat) ≤ 1000 by decide), fun H9 jj x hx D9 X9 => ?_⟩
        obtain ⟨xv, rfl, hx1, hx2⟩ : ∃ xv : Int, x = .int xv ∧ 1 ≤ xv ∧ xv ≤ 10 ^ 12 := by
          match jj, hx with
          | 0, hx => cases hx; exact ⟨am, rfl, ha1, ha2⟩
          | 1, hx =>
            cases hx
            have t12 : (10 : Int) ^ (12 : Int).toNat = 1000000000000 := by decide
            refine ⟨_, rfl, ?_, ?_⟩
            · split <;> omega
            · split
              · split <;> rw [t12] at * <;> omega
              · omega
          | n + 2, hx => simp at hx
        have eS9 := X9 _ _ (upNew nL (X8 _ _ eS7 oSz.1 oSz.2.2)) oSz.1 oSz.2.2
        have eR9 := X9 _ _ (upNew nL (X8 _ _ eR7 oRw.1 oRw.2.2)) oRw.1 oRw.2.2
        refine ⟨Sz, _, _, rfl, rfl, eS9, by rw [List.length_map]; exact small (by omega), _, _, _, _, t8 + 1, ls ++ [xv], rfl, D9.put oSz.1 oSz.2.1 oSz.2.2, by omega, ExtPut (((x7.trans X8).trans (Ext.of (sameNew nL))).trans X9) fSz, (((tk7.trans (X8.tup D7)).trans (TupK.new nL)).trans (X9.tup (D8.new nL))).trans (TupK.put eS9), by rw [upd_ne nRS]; exact eR9, ?_, by simp [lS5], ?_⟩
        · rw [upd_same, List.map_append]; rfl
        · intro y hy
          rw [List.mem_append] at hy
          rcases hy with h | h
          · exact bS5 y h
          · simp only [List.mem_singleton] at h; omega
      · rintro σ H5 ⟨z6, z7, z9, z10, t5, ls, rfl, d5, ht5, x5, tk5, eR5, eS5, lS5, bS5⟩
        refine ⟨.ref Sz, rfl, Sz, _, rfl, .inl ⟨SqL.of eS5, fun Ct nCt => ⟨.ref Rw, rfl, Rw, _, rfl, .inl ⟨SqL.of (upNew nCt eR5), fun Gt nGt => ⟨(show (2 : Nat) ≤ sizeLine by decide), fun In nIn => ?_⟩⟩⟩⟩⟩
        have tkz : TupK H5 (upd (upd (upd H5 Ct (.tup (ls.map V.int))) Gt (.tup vs)) In (.tup [.ref Ct, .ref Gt])) := ((TupK.new nCt).trans (TupK.new nGt)).trans (TupK.new nIn)
        have hl5 : ls.length = n := by omega
        refine q _ In t5 ls gs (((d5.new nCt).new nGt).new nIn) (by omega) (((x5.trans (Ext.of (sameNew nCt))).trans (Ext.of (sameNew nGt))).trans (Ext.of (sameNew nIn)))
          ⟨Ct, Gt, vs, SqT.of upd_same, ((TupK.new nGt).trans (TupK.new nIn)).sq (SqT.of upd_same), SqT.of (upNew nIn upd_same), hpt.tk (tk5.trans tkz)⟩ ⟨by omega, by omega, bS5, by omega, by omega, ?_⟩ (fun g hg => (bgs g hg).2.2.2)
        rw [hl5]
        exact fun g hg => ⟨(bgs g hg).1, (bgs g hg).2.1, (bgs g hg).2.2.1.1, (bgs g hg).2.2.1.2⟩
end
end Pv

namespace Pv
open PySem PySem.Spec PyProof.Rows L2

abbrev sInteg : Stmt := topS 29

theorem scInteg : FnScope ["_law_value", "_law_low", "_law_high"] ["_law_value", "_law_low", "_law_high"] (defScope sInteg) := ⟨rfl, rfl, rfl, by decide +kernel, rfl, by decide +kernel, by decide +kernel⟩
/-! a tuple of different post numbers, by its data -/
def listD (n : Int) (d : PyData) : Bool := match intsOf d with
  | some row => row.all (fun x => decide (0 ≤ x ∧ x ≤ n - 1)) && decide row.Nodup
  | none => false
theorem listD_ints (n : Int) (row : List Int) : listD n (.tuple (row.map .int)) = (row.all (fun x => decide (0 ≤ x ∧ x ≤ n - 1)) && decide row.Nodup) := by
  simp [listD, intsOf, intsAll_ints]
theorem listD_out {n : Int} {ds : List PyData} (h : ds.all (withinD 0 (n - 1)) = false) : listD n (.tuple ds) = false := by
  cases e : intsAll ds with
  | none => simp [listD, intsOf, e]
  | some row =>
    have e' := intsAll_eq e
    rw [e', List.all_map] at h
    have : row.all (fun x => decide (0 ≤ x ∧ x ≤ n - 1)) = false := h
    simp only [listD, intsOf, e, this, Bool.false_and]
theorem listD_long {n : Int} {d : PyData} (hn : 0 ≤ n) (h : tupOfD 0 n d = false) : listD n d = false := by
  cases d with
  | tuple ds =>
    cases e : listD n (.tuple ds) with
    | false => rfl
    | true =>
      cases e1 : intsAll ds with
      | none => simp [listD, intsOf, e1] at e
      | some row =>
        have e2 := intsAll_eq e1
        subst e2
        rw [listD_ints, Bool.and_eq_true, List.all_eq_true] at e
        have hl := len_sub (ks := row) (ns := upTo n.toNat) (of_decide_eq_true e.2) (fun k hk => by
          have := of_decide_eq_true (e.1 k hk)
          exact List.mem_map.mpr ⟨k.toNat, by rw [List.mem_range]; omega, by omega⟩)
        rw [upTo_len] at hl
        have h1 := of_decide_eq_false h
        rw [List.length_map] at h1
        omega
  | _ => rfl
section
variable {P : Program} {w : World} {K : PySem.W.Frag} {mg : Str → Option Value} {base : Heap}
def rNeNil (K : PySem.W.Frag) : R2 := fun x y H Q => ∃ (a b : Addr) (xs : List V), x = .ref a ∧ y = .ref b ∧ SqL K H a xs ∧ SqL K H b [] ∧ Q (.bl (!xs.isEmpty)) H
theorem op_neNil {X : Cx} (hu : X.A.units < cLine) : OpR X (compareOp .NotEq) (rNeNil X.K) := by
  intro pins s σ H x y v u Q I rx ry h
  obtain ⟨a, b, xs, rfl, rfl, ha, hb, q⟩ := h
  cases rx
  cases ry
  obtain ⟨its, r1, p1, z1⟩ := I.list ha
  obtain ⟨its2, r2, p2, z2⟩ := I.list hb
  cases r2
  cases xs with
  | nil =>
    cases r1
    exact SeqAt.RcNeAt.lists (e := fun _ => true) p1.isList p2.isList rfl hu (fun j h1 _ => absurd h1 (Nat.not_lt_zero _)) X.prog X.w _ _ ⟨.bl false, H, I, rfl, q⟩
  | cons x xs =>
    have hl := r1.length
    exact SeqAt.RcNeAt.lists_lengths p1.isList p2.isList (by rw [List.size_toArray, ← hl]; rfl) hu X.prog X.w _ _ ⟨.bl true, H, I, rfl, q⟩
def spInteg (K : PySem.W.Frag) : Sp := fun vs H Q _ => ∃ (st r : Addr) (v : V) (d : PyData) (a b : Int), vs = [v, .int a, .int b] ∧ Dq K st r H v d ∧ Q (.bl (withinD a b d)) H
theorem ok_integ {f : Addr} {fd : FuncData} {k : Nat} (F : Fun K "_law_integer" "_law_integer" sInteg f fd) (mi : mg "isinstance" = none) (mint : mg "int" = none) (mb : mg "bool" = none) :
    FnOk P w K mg base CX0 (k + 1) f fd ["_law_value", "_law_low", "_law_high"] (spInteg K) := by
  refine F.ok scInteg (fun vs H Q E h => ?_) (fun cdv A outer s H vs Q E hr h => ?_)
  · obtain ⟨st, r, v, d, a, b, rfl, _⟩ := h; rfl
  · obtain ⟨st, r, v, d, a, b, rfl, hd, q⟩ := h
    refine ⟨_, pss_one (ps_ret (pe_and (pe_callB call_isi (by rfl) mi (by decide +kernel) (pa_cons (pv 0) (pa_cons (pe_bltn (v := .ty "int") (by rfl) mint (by decide +kernel) rfl) pa_nil)))
      (pe_and (pe_not (pe_callB call_isi (by rfl) mi (by decide +kernel) (pa_cons (pv 0) (pa_cons (pe_bltn (v := .ty "bool") (by rfl) mb (by decide +kernel) rfl) pa_nil))))
        (pe_one (pe_chain op_le op_le (pv 1) (pv 0) (pv 2)))))), ?_⟩
    refine ⟨v, rfl, v, .ty "int", _, _, _, rfl, .ty _, hd.ty, kit_int d, _, rfl, ite2 (fun h1 => ?_) (fun h1 => ?_)⟩
    · refine ⟨v, rfl, v, .ty "bool", _, _, _, rfl, .ty _, hd.ty, kit_bool d, _, rfl, _, rfl, ite2 (fun h2 => ?_) (fun h2 => ?_)⟩
      · cases d with
        | int i =>
          cases hd
          refine ⟨.int a, rfl, .int i, rfl, _, _, rfl, rfl, _, rfl, ite2 (fun h3 => ?_) (fun h3 => ?_)⟩
          · refine ⟨.int b, rfl, _, _, rfl, rfl, ?_⟩
            have h3' : a ≤ i := of_decide_eq_true h3
            simpa [withinD, h3'] using q
          · have h3' : ¬ a ≤ i := fun z => h3 (decide_eq_true z)
            simpa [withinD, h3'] using q
        | bool b => simp [isBool] at h2
        | _ => simp [isInt] at h1
      · cases d with
        | bool b => exact q
        | int i => simp [isBool] at h2
        | _ => simp [isInt] at h1
    · cases d with
      | int i => simp [isInt] at h1
      | _ => exact q
def spPList (K : PySem.W.Frag) : Sp := fun vs H Q _ => ∃ (st r : Addr) (v : V) (d : PyData) (n : Int), vs = [v, .int n] ∧ Dq K st r H v d ∧ 0 ≤ n ∧ n ≤ 50 ∧ ∀ H', Same H H' → Q (.bl (listD n d)) H'
end
end Pv

namespace Pv
open PySem PySem.Spec PyProof.Rows L2


/-! no tuple is long -/
mutual
def nar (L : Nat) : PyData → Prop
  | .tuple xs => xs.length ≤ L ∧ narAll L xs
  | .list xs => narAll L xs
  | _ => True
def narAll (L : Nat) : List PyData → Prop
  | [] => True
  | x :: xs => nar L x ∧ narAll L xs
end
theorem narAll_iff {L : Nat} : ∀ {xs : List PyData}, narAll L xs ↔ ∀ x ∈ xs, nar L x
  | [] => by simp [narAll]
  | x :: xs => by simp [narAll, narAll_iff (xs := xs)]
theorem nar_tup {L : Nat} {xs : List PyData} : nar L (.tuple xs) ↔ xs.length ≤ L ∧ ∀ x ∈ xs, nar L x := by simp only [nar, narAll_iff]
theorem eqv_intsL (as bs : List Int) : PyData.eqv (.list (as.map PyData.int)) (.list (bs.map PyData.int)) = decide (as = bs) := by
  have key : ∀ (as bs : List Int), PyData.eqvAll (as.map PyData.int) (bs.map PyData.int) = decide (as = bs) := by
    intro as
    induction as with
    | nil => intro bs; cases bs <;> simp [PyData.eqvAll]
    | cons a as ih =>
      intro bs
      cases bs with
      | nil => simp [PyData.eqvAll]
      | cons b bs =>
        simp only [List.map_cons, PyData.eqvAll, PyData.eqv, ih, List.cons.injEq]
        by_cases h1 : a = b <;> by_cases h2 : as = bs <;> simp [h1, h2]
  rw [PyData.eqv]; exact key as bs
theorem shaped_intsL {as : List Int} : SeqAt.shaped (.list (as.map PyData.int)) = true := by
  have hd : PyData.depthAll (as.map PyData.int) = 0 := by
    induction as with
    | nil => rfl
    | cons a as ih => simp [PyData.depthAll, PyData.depth, ih]
  have hc : PyData.canLayAll0 (as.map PyData.int) = true := lay_ints as
  show (PyData.canLay0 (.list (as.map PyData.int)) && decide (PyData.depth (.list (as.map PyData.int)) ≤ 64)) = true
  simp only [PyData.canLay0, PyData.depth, hd, hc]
  decide
section
variable {P : Program} {w : World} {K : PySem.W.Frag} {mg : Str → Option Value} {base : Heap}
def spIsL (K : PySem.W.Frag) : Sp := fun vs H Q _ => ∃ (st r : Addr) (v : V) (d : PyData) (n : Int), vs = [.int n, v] ∧ Dq K st r H v d ∧ nar 50 d ∧ ∀ H', Same H H' → Q (.bl (listD n d)) H'
end
end Pv

namespace Pv
open PySem PySem.Spec PyProof.Rows L2
abbrev sSame : Stmt := topS 22
theorem scSame : FnScope ["_law_found", "_law_due", "_law_k"] ["_law_found", "_law_due"] (defScope sSame) := ⟨rfl, rfl, rfl, by decide +kernel, rfl, by decide +kernel, by decide +kernel⟩
mutual
def plain : PyData → Bool
  | .none | .int _ | .bool _ | .str _ => true
  | .list xs | .tuple xs => decide (xs.length ≤ 1000) && plainAll xs
  | _ => false
def plainAll : List PyData → Bool
  | [] => true
  | x :: xs => plain x && plainAll xs
end
theorem plainAll_at : ∀ {xs : List PyData} {i : Nat} {d : PyData}, plainAll xs = true → xs[i]? = some d → plain d = true
  | [], _, _, _, e => by simp at e
  | x :: xs, 0, d, h, e => by simp [plainAll] at h e; subst e; exact h.1
  | x :: xs, i + 1, d, h, e => by simp [plainAll] at h e; exact plainAll_at h.2 e
theorem depthAll_at : ∀ {xs : List PyData} {i : Nat} {d : PyData}, xs[i]? = some d → d.depth ≤ PyData.depthAll xs
  | [], _, _, e => by simp at e
  | x :: xs, 0, d, e => by simp at e; subst e; simp only [PyData.depthAll]; omega
  | x :: xs, i + 1, d, e => by
    have := depthAll_at (xs := xs) (i := i) (d := d) (by simpa using e)
    simp only [PyData.depthAll]; omega
inductive SeqAs (K : PySem.W.Frag) (H : Hp) (a : Addr) (xs : List V) : String → Prop
  | l : SqL K H a xs → SeqAs K H a xs "list"
  | t : SqT K H a xs → SeqAs K H a xs "tuple"
section
variable {K : PySem.W.Frag} {H H' : Hp} {a : Addr} {xs : List V} {T : String}
theorem SeqAs.same (h : SeqAs K H a xs T) (s : Same H H') : SeqAs K H' a xs T := by
  cases h with
  | l h => exact .l (s.seq h)
  | t h => exact .t ((TupK.of s).sq h)
theorem SeqAs.ty (h : SeqAs K H a xs T) : TyX K H (.ref a) (.type T) := by
  cases h with
  | l h => exact ty_sqL h
  | t h => exact ty_sq h
theorem SeqAs.or (h : SeqAs K H a xs T) : SqL K H a xs ∨ SqT K H a xs := by
  cases h with
  | l h => exact .inl h
  | t h => exact .inr h
theorem SeqAs.ix (h : SeqAs K H a xs T) {j : Nat} {v : V} {Q : VK} (e : xs[j]? = some v) (q : Q v H) : rIx K (.ref a) (.int j) H Q := by
  cases h with
  | l h => exact .inl ⟨a, xs, _, v, rfl, rfl, h, atI_nat e, q⟩
  | t h => exact .inr (.inl ⟨a, xs, _, v, rfl, rfl, h, atI_nat e, q⟩)
theorem SeqAs.kit (h : SeqAs K H a xs T) (S : String) (hS : S = "list" ∨ S = "tuple") : PySem.W.kitOne K (.type T) (.type S) = some (T == S) := by
  cases h <;> rcases hS with rfl | rfl <;> exact kit_ty (by decide +kernel)
theorem SeqAs.kits (h : SeqAs K H a xs T) : PySem.W.kitAny K (.type T) [.type "list", .type "tuple"] = some true := by
  cases h with
  | l h => exact kitAny_cons (kit_ty (b := "list") (r := true) (by decide +kernel)) (fun z => by cases z) (fun _ => rfl)
  | t h => exact kitAny_cons (kit_ty (b := "list") (r := false) (by decide +kernel)) (fun _ => kitAny_cons (kit_ty (b := "tuple") (r := true) (by decide +kernel)) (fun z => by cases z) (fun _ => rfl)) (fun z => by cases z)
end
section
variable {P : Program} {w : World} {K : PySem.W.Frag} {mg : Str → Option Value} {base : Heap}
def spS (K : PySem.W.Frag) : Nat → Sp
  | 0 => fun _ _ _ _ => False
  | n + 1 => fun vs H Q _ => ∃ (x y : V) (d : PyData), vs = [x, y] ∧ Dp K H x d ∧ Dp K H y d ∧ plain d = true ∧ d.depth ≤ n ∧ ∀ H', Same H H' → Q (.bl true) H'
mutual
theorem same_dp {H H' : Hp} (s : Same H H') : ∀ {d : PyData} {v : V}, plain d = true → Dp K H v d → Dp K H' v d
  | .none, _, _, h => by cases h; exact .non
  | .int _, _, _, h => by cases h; exact .int _
  | .list xs, _, t, h => by
    simp only [plain, Bool.and_eq_true] at t
    cases h with
    | lst h1 h2 => exact .lst (s.seq h1) (same_dpAll s t.2 h2)
  | .tuple xs, _, t, h => by
    simp only [plain, Bool.and_eq_true] at t
    cases h with
    | tup h1 h2 => exact .tup ((TupK.of s).sq h1) (same_dpAll s t.2 h2)
  | .bool _, _, _, h => by cases h; exact .bl _
  | .str _, _, _, h => by cases h; exact .str _
  | .dict _, _, t, _ => by simp [plain] at t
theorem same_dpAll {H H' : Hp} (s : Same H H') : ∀ {ds : List PyData} {vs : List V}, plainAll ds = true → DpAll K H vs ds → DpAll K H' vs ds
  | [], _, _, h => by cases h; exact .nil
  | d :: ds, _, t, h => by
    simp only [plainAll, Bool.and_eq_true] at t
    cases h with
    | cons h1 h2 => exact .cons (same_dp s t.1 h1) (same_dpAll s t.2 h2)
end
theorem eqv_nil : PyData.eqv (.list []) (.list []) = true := by simp [PyData.eqv, PyData.eqvAll]
set_option maxHeartbeats 4000000 in
theorem ok_same {f : Addr} {fd : FuncData} (F : Fun K "_law_same" "_law_same" sSame f fd) (b : Binds K fd ["_law_found", "_law_due"] []) (g : mg "_law_same" = some (.ref f))
    (mi : mg "isinstance" = none) (mli : mg "list" = none) (mt : mg "tuple" = none) (ml : mg "len" = none) (mr : mg "range" = none) (mst : mg "str" = none) (mint : mg "int" = none) (mbo : mg "bool" = none) :
    ∀ n, FnOk P w K mg base CX0 n f fd ["_law_found", "_law_due"] (spS K n)
  | 0 => FnOk.none
  | n + 1 => by
    have G := ok_same F b g mi mli mt ml mr mst mint mbo n
    refine F.ok scSame (fun vs H Q E h => ?_) (fun cdv A outer s H vs Q E hr h => ?_)
    · obtain ⟨x, y, d, rfl, _⟩ := h; rfl
    · obtain ⟨x, y, d, rfl, hx, hy, hpl, hdp, q⟩ := h
      have hu64 : (A.deeper (envOfC "_law_same" (defScope sSame) s.heap.objs.size f cdv)).units + 64 < cLine := by have := hr.un; omega
      refine ⟨_, pss_cons (ps_if (pt_val (pe_callB call_isiT (by rfl) mi (by decide +kernel) (pa_cons (pv 1) (pa_cons (pe_tup (pa_cons (pe_bltn (v := .ty "list") (by rfl) mli (by decide +kernel) rfl) (pa_cons (pe_bltn (v := .ty "tuple") (by rfl) mt (by decide +kernel) rfl) pa_nil))) pa_nil))))
          (pss_cons (ps_if (PW.pt (pw_or (pt_cmpR op_ne (pe_callB call_isi (by rfl) mi (by decide +kernel) (pa_cons (pv 0) (pa_cons (pe_bltn (v := .ty "list") (by rfl) mli (by decide +kernel) rfl) pa_nil)))
                (pe_callB call_isi (by rfl) mi (by decide +kernel) (pa_cons (pv 1) (pa_cons (pe_bltn (v := .ty "list") (by rfl) mli (by decide +kernel) rfl) pa_nil))) (nomark _))
              (pw_or1 (pt_cmpR op_ne (pe_callB call_isi (by rfl) mi (by decide +kernel) (pa_cons (pv 0) (pa_cons (pe_bltn (v := .ty "tuple") (by rfl) mt (by decide +kernel) rfl) pa_nil)))
                (pe_callB call_isi (by rfl) mi (by decide +kernel) (pa_cons (pv 1) (pa_cons (pe_bltn (v := .ty "tuple") (by rfl) mt (by decide +kernel) rfl) pa_nil))) (nomark _))))) (pss_one (ps_ret pe_bl)) pss_nil)
          (pss_cons (ps_if (pt_cmpR op_ne (pe_callB call_len_seq (by rfl) ml PySem.boot_len (pa_cons (pv 0) pa_nil)) (pe_callB call_len_seq (by rfl) ml PySem.boot_len (pa_cons (pv 1) pa_nil)) (nomark _)) (pss_one (ps_ret pe_bl)) pss_nil)
          (pss_one (ps_ret (pe_cmpR (op_eqD hu64)
            (pe_lc (own := [("_law_k", 2)]) (g := gName 2) (tt := tNot (tB (tCall (spS K n) [] E0 (tCons (tOp (rIx K) (tVar 0) (tVar 2)) (tCons (tOp (rIx K) (tVar 1) (tVar 2)) tNil))))) (te := tVar 2) rfl scSame.nd
              (pi_range1 (by rfl) mr (pa_cons (pe_callB call_len_seq (by rfl) ml PySem.boot_len (pa_cons (pv 1) pa_nil)) pa_nil)) (blkOk_by (N := ["_law_found", "_law_due", "_law_k"]) (sc := defScope sSame) (by decide +kernel))
              (fun _ _ _ _ _ => pg_name (i := 2) scSame.nd rfl (.inl rfl))
              (fun _ _ _ _ _ => pts_one (pt_not (pt_val (pe_call G hr (by rfl) g F.kp b .nil pass0 (pa_cons (pe_ix ix_seq (pv 0) (pv 2) (fun _ _ => rfl)) (pa_cons (pe_ix ix_seq (pv 1) (pv 2) (fun _ _ => rfl)) pa_nil))))))
              (fun _ _ _ _ _ => pv 2))
            (pe_lst pa_nil) (nomark _)))))) pss_nil)
        (pss_cons (ps_if (pt_cmp (pc_isN (pv 1))) (pss_one (ps_ret (pe_cmp (pc_isN (pv 0))))) pss_nil)
        (pss_cons (ps_if (pt_val (pe_callB call_isi (by rfl) mi (by decide +kernel) (pa_cons (pv 1) (pa_cons (pe_bltn (v := .ty "str") (by rfl) mst (by decide +kernel) rfl) pa_nil))))
          (pss_one (ps_ret (pe_and (pe_callB call_isi (by rfl) mi (by decide +kernel) (pa_cons (pv 0) (pa_cons (pe_bltn (v := .ty "str") (by rfl) mst (by decide +kernel) rfl) pa_nil))) (pe_one (pe_cmpR op_eq (pv 0) (pv 1) (nomark _)))))) pss_nil)
        (pss_one (ps_ret (pe_and (pe_callB call_isi (by rfl) mi (by decide +kernel) (pa_cons (pv 0) (pa_cons (pe_bltn (v := .ty "int") (by rfl) mint (by decide +kernel) rfl) pa_nil)))
          (pe_and (pe_cmpR op_eq (pe_callB call_isi (by rfl) mi (by decide +kernel) (pa_cons (pv 0) (pa_cons (pe_bltn (v := .ty "bool") (by rfl) mbo (by decide +kernel) rfl) pa_nil)))
            (pe_callB call_isi (by rfl) mi (by decide +kernel) (pa_cons (pv 1) (pa_cons (pe_bltn (v := .ty "bool") (by rfl) mbo (by decide +kernel) rfl) pa_nil))) (nomark _))
            (pe_one (pe_cmpR op_eq (pv 0) (pv 1) (nomark _))))))))), ?_⟩
      refine ⟨y, rfl, (show (2 : Nat) ≤ sizeLine by decide), fun tp ntp => ?_⟩
      have s1 : Same H (upd H tp (.tup [.ty "list", .ty "tuple"])) := sameNew ntp
      have cls : (∃ (T : String) (a b' : Addr) (xs ys : List V) (ds : List PyData), x = .ref a ∧ y = .ref b' ∧ SeqAs K H a xs T ∧ SeqAs K H b' ys T ∧ DpAll K H xs ds ∧ DpAll K H ys ds ∧ ds.length ≤ 1000 ∧ plainAll ds = true ∧ PyData.depthAll ds + 1 ≤ n) ∨
          (x = .non ∧ y = .non) ∨ (∃ i, x = .int i ∧ y = .int i) ∨ (∃ b, x = .bl b ∧ y = .bl b) ∨ ∃ z, x = .str z ∧ y = .str z := by
        cases d with
        | none => cases hx; cases hy; exact .inr (.inl ⟨rfl, rfl⟩)
        | int i => cases hx; cases hy; exact .inr (.inr (.inl ⟨i, rfl, rfl⟩))
        | list ds =>
          simp only [plain, Bool.and_eq_true, decide_eq_true_eq] at hpl
          simp only [PyData.depth] at hdp
          cases hx with
          | lst h1 h2 => cases hy with
            | lst h3 h4 => exact .inl ⟨"list", _, _, _, _, ds, rfl, rfl, .l h1, .l h3, h2, h4, hpl.1, hpl.2, hdp⟩
        | tuple ds =>
          simp only [plain, Bool.and_eq_true, decide_eq_true_eq] at hpl
          simp only [PyData.depth] at hdp
          cases hx with
          | tup h1 h2 => cases hy with
            | tup h3 h4 => exact .inl ⟨"tuple", _, _, _, _, ds, rfl, rfl, .t h1, .t h3, h2, h4, hpl.1, hpl.2, hdp⟩
        | bool bb => cases hx; cases hy; exact .inr (.inr (.inr (.inl ⟨bb, rfl, rfl⟩)))
        | str z => cases hx; cases hy; exact .inr (.inr (.inr (.inr ⟨z, rfl, rfl⟩)))
        | dict _ => simp [plain] at hpl
      rcases cls with ⟨T, a, b', xs, ys, ds, rfl, rfl, hX, hY, dx, dy, hds, hpa, hda⟩ | ⟨rfl, rfl⟩ | ⟨i, rfl, rfl⟩ | ⟨bb, rfl, rfl⟩ | ⟨z, rfl, rfl⟩
      · have hX1 := hX.same s1
        have hY1 := hY.same s1
        refine ⟨.ref b', tp, _, _, _, true, rfl, upd_same, .cons (.ty _) (.cons (.ty _) .nil), hY1.ty, hY1.kits, true, rfl, iteT ?_⟩
        refine ⟨.ref a, rfl, .ref a, .ty "list", _, _, _, rfl, .ty _, hX1.ty, hX1.kit "list" (.inl rfl), .ref b', rfl, .ref b', .ty "list", _, _, _, rfl, .ty _, hY1.ty, hY1.kit "list" (.inl rfl), rfl, _, rfl, iteNS rfl ?_⟩
        refine ⟨.ref a, rfl, .ref a, .ty "tuple", _, _, _, rfl, .ty _, hX1.ty, hX1.kit "tuple" (.inr rfl), .ref b', rfl, .ref b', .ty "tuple", _, _, _, rfl, .ty _, hY1.ty, hY1.kit "tuple" (.inr rfl), rfl, _, rfl, iteNS rfl ?_⟩
        have lx := DpAll.len dx
        have ly := DpAll.len dy
        refine ⟨.ref a, rfl, a, xs, rfl, hX1.or, .ref b', rfl, b', ys, rfl, hY1.or, rfl, _, rfl, iteNS (by rw [lx, ly]) ?_⟩
        refine ⟨.ref b', rfl, b', ys, rfl, hY1.or, _, rfl, by omega, by omega, fun D nD => lc_it (walk_range (lo := 0) (n := (ys.length : Int).toNat))
          (fun j H2 => Same H H2 ∧ H2 D = some (.lst [])) ⟨s1.trans (sameNew nD), upd_same⟩ (fun _ _ _ _ => trivial) ?_ ?_⟩
        · rintro j v H2 H3 hlt ⟨s2, e2⟩ ⟨rfl, rfl⟩
          have hj : j < ys.length := by omega
          have hj2 : j < xs.length := by omega
          have ex : xs[j]? = some xs[j] := List.getElem?_eq_getElem hj2
          have ey : ys[j]? = some ys[j] := List.getElem?_eq_getElem hj
          obtain ⟨d1, hd1, hx1⟩ := DpAll.at dx ex
          obtain ⟨d2, hd2, hy1⟩ := DpAll.at dy ey
          rw [hd1] at hd2
          cases hd2
          have hpd := plainAll_at hpa hd1
          have hdd := depthAll_at hd1
          obtain ⟨n', rfl⟩ : ∃ n', n = n' + 1 := ⟨n - 1, by omega⟩
          have e0 : (0 : Int) + (j : Nat) = (j : Nat) := by omega
          dsimp only
          rw [e0]
          refine ⟨rfl, .ref a, rfl, .int (j : Nat), rfl, (hX.same s2).ix ex ⟨.ref b', rfl, .int (j : Nat), rfl, (hY.same s2).ix ey ?_⟩⟩
          refine ⟨_, _, d1, rfl, same_dp s2 hpd hx1, same_dp s2 hpd hy1, hpd, by omega, fun H4 s4 => ⟨_, rfl, ?_⟩⟩
          exact ⟨s2.trans s4, s4 _ _ e2⟩
        · rintro H2 ⟨s2, e2⟩
          refine ⟨Nat.zero_le _, fun p np => ⟨.list [], .list [], .lst (SqL.of (upNew np e2)) .nil, .lst (SqL.of upd_same) .nil, by decide, by decide, ?_⟩⟩
          rw [eqv_nil]
          exact q _ (s2.trans (sameNew np))
      · have kn : PySem.W.kitAny K (.type "NoneType") [.type "list", .type "tuple"] = some false :=
          kitAny_cons (kit_ty (b := "list") (r := false) (by decide +kernel)) (fun _ => kitAny_cons (kit_ty (b := "tuple") (r := false) (by decide +kernel)) (fun _ => kitAny_nil) (fun z => by cases z)) (fun z => by cases z)
        refine ⟨.non, tp, _, _, _, false, rfl, upd_same, .cons (.ty _) (.cons (.ty _) .nil), .base .non, kn, false, rfl, iteF ?_⟩
        refine ⟨.non, rfl, _, rfl, iteT ?_⟩
        exact ⟨.non, rfl, q _ s1⟩
      · have kn : PySem.W.kitAny K (.type "int") [.type "list", .type "tuple"] = some false :=
          kitAny_cons (kit_ty (b := "list") (r := false) (by decide +kernel)) (fun _ => kitAny_cons (kit_ty (b := "tuple") (r := false) (by decide +kernel)) (fun _ => kitAny_nil) (fun z => by cases z)) (fun z => by cases z)
        refine ⟨.int i, tp, _, _, _, false, rfl, upd_same, .cons (.ty _) (.cons (.ty _) .nil), .base (.int i), kn, false, rfl, iteF ?_⟩
        refine ⟨.int i, rfl, _, rfl, iteF ?_⟩
        refine ⟨.int i, rfl, .int i, .ty "str", _, _, false, rfl, .ty _, .base (.int i), kit_ty (by decide +kernel), false, rfl, iteF ?_⟩
        refine ⟨.int i, rfl, .int i, .ty "int", _, _, true, rfl, .ty _, .base (.int i), kit_ty (by decide +kernel), true, rfl, iteT ?_⟩
        refine ⟨.int i, rfl, .int i, .ty "bool", _, _, false, rfl, .ty _, .base (.int i), kit_ty (by decide +kernel), .int i, rfl, .int i, .ty "bool", _, _, false, rfl, .ty _, .base (.int i), kit_ty (by decide +kernel), rfl, _, rfl, iteT ?_⟩
        refine ⟨.int i, rfl, .int i, rfl, rfl, ?_⟩
        have := q _ s1
        rw [decide_eq_true rfl]
        exact this
      · have kn : PySem.W.kitAny K (.type "bool") [.type "list", .type "tuple"] = some false :=
          kitAny_cons (kit_ty (b := "list") (r := false) (by decide +kernel)) (fun _ => kitAny_cons (kit_ty (b := "tuple") (r := false) (by decide +kernel)) (fun _ => kitAny_nil) (fun z => by cases z)) (fun z => by cases z)
        refine ⟨.bl bb, tp, _, _, _, false, rfl, upd_same, .cons (.ty _) (.cons (.ty _) .nil), .base (.bl bb), kn, false, rfl, iteF ?_⟩
        refine ⟨.bl bb, rfl, _, rfl, iteF ?_⟩
        refine ⟨.bl bb, rfl, .bl bb, .ty "str", _, _, false, rfl, .ty _, .base (.bl bb), kit_ty (by decide +kernel), false, rfl, iteF ?_⟩
        refine ⟨.bl bb, rfl, .bl bb, .ty "int", _, _, true, rfl, .ty _, .base (.bl bb), kit_ty (by decide +kernel), true, rfl, iteT ?_⟩
        refine ⟨.bl bb, rfl, .bl bb, .ty "bool", _, _, true, rfl, .ty _, .base (.bl bb), kit_ty (by decide +kernel), .bl bb, rfl, .bl bb, .ty "bool", _, _, true, rfl, .ty _, .base (.bl bb), kit_ty (by decide +kernel), rfl, _, rfl, iteT ?_⟩
        refine ⟨.bl bb, rfl, .bl bb, rfl, rfl, ?_⟩
        have := q _ s1
        rw [decide_eq_true rfl]
        exact this
      · have kn : PySem.W.kitAny K (.type "str") [.type "list", .type "tuple"] = some false :=
          kitAny_cons (kit_ty (b := "list") (r := false) (by decide +kernel)) (fun _ => kitAny_cons (kit_ty (b := "tuple") (r := false) (by decide +kernel)) (fun _ => kitAny_nil) (fun z => by cases z)) (fun z => by cases z)
        refine ⟨.str z, tp, _, _, _, false, rfl, upd_same, .cons (.ty _) (.cons (.ty _) .nil), .base (.str z), kn, false, rfl, iteF ?_⟩
        refine ⟨.str z, rfl, _, rfl, iteF ?_⟩
        refine ⟨.str z, rfl, .str z, .ty "str", _, _, true, rfl, .ty _, .base (.str z), kit_ty (by decide +kernel), true, rfl, iteT ?_⟩
        refine ⟨.str z, rfl, .str z, .ty "str", _, _, true, rfl, .ty _, .base (.str z), kit_ty (by decide +kernel), true, rfl, iteT ?_⟩
        refine ⟨.str z, rfl, .str z, rfl, rfl, ?_⟩
        have := q _ s1
        rw [decide_eq_true rfl]
        exact this
end
end Pv

namespace Pv
open PySem PySem.Spec PyProof.Rows L2
abbrev sOdd : Stmt := topS 26
theorem scOdd : FnScope ["_law_deck_here", "_law_some"] ["_law_deck_here"] (defScope sOdd) := ⟨rfl, rfl, rfl, by decide +kernel, rfl, by decide +kernel, by decide +kernel⟩
def oddL : List PyData := [.none, .bool true, .bool false, .int (-1), .int 0, .int 1, .int (10 ^ (12 : Int).toNat + 1), .int (10 ^ (29 : Int).toNat), .str "", .str "0", .tuple [], .list [], .dict [], .tuple [.int 0], .list [.int 0], .tuple [.int 0, .int 0], .tuple [.tuple []], .str "a"]
theorem odd_fit : ∀ d ∈ oddL, Fit (10 ^ 29) 2 500 d ∧ nar 2 d := by
  intro d hd
  simp only [oddL, List.mem_cons, List.not_mem_nil, or_false] at hd
  rcases hd with rfl | rfl | rfl | rfl | rfl | rfl | rfl | rfl | rfl | rfl | rfl | rfl | rfl | rfl | rfl | rfl | rfl | rfl
  · exact ⟨⟨by simp [fit], by simp [PyData.depth], by simp [wt]⟩, by simp [nar]⟩
  · exact ⟨⟨by simp [fit], by simp [PyData.depth], by simp [wt]⟩, by simp [nar]⟩
  · exact ⟨⟨by simp [fit], by simp [PyData.depth], by simp [wt]⟩, by simp [nar]⟩
  · exact ⟨⟨by simp [fit], by simp [PyData.depth], by simp [wt]⟩, by simp [nar]⟩
  · exact ⟨⟨by simp [fit], by simp [PyData.depth], by simp [wt]⟩, by simp [nar]⟩
  · exact ⟨⟨by simp [fit], by simp [PyData.depth], by simp [wt]⟩, by simp [nar]⟩
  · exact ⟨⟨by simp only [fit]; decide, by simp [PyData.depth], by simp [wt]⟩, by simp [nar]⟩
  · exact ⟨⟨by simp only [fit]; decide, by simp [PyData.depth], by simp [wt]⟩, by simp [nar]⟩
  · exact ⟨⟨by simp only [fit]; decide +kernel, by simp [PyData.depth], by simp [wt]⟩, by simp [nar]⟩
  · exact ⟨⟨by simp only [fit]; decide +kernel, by simp [PyData.depth], by simp [wt]⟩, by simp [nar]⟩
  · exact ⟨⟨by simp [fit, fitAll], by simp [PyData.depth, PyData.depthAll], by simp [wt, wtAll]⟩, by simp [nar, narAll]⟩
  · exact ⟨⟨by simp [fit, fitAll], by simp [PyData.depth, PyData.depthAll], by simp [wt, wtAll]⟩, by simp [nar, narAll]⟩
  · exact ⟨⟨by simp only [fit]; exact ⟨by decide +kernel, by simp [PyData.showable, PyData.showableKv]⟩, by simp [PyData.depth, PyData.depthKv], by simp [wt]⟩, by simp [nar]⟩
  · exact ⟨⟨by simp [fit, fitAll], by simp [PyData.depth, PyData.depthAll], by simp [wt, wtAll]⟩, by simp [nar, narAll]⟩
  · exact ⟨⟨by simp [fit, fitAll], by simp [PyData.depth, PyData.depthAll], by simp [wt, wtAll]⟩, by simp [nar, narAll]⟩
  · exact ⟨⟨by simp [fit, fitAll], by simp [PyData.depth, PyData.depthAll], by simp [wt, wtAll]⟩, by simp [nar, narAll]⟩
  · exact ⟨⟨by simp [fit, fitAll], by simp [PyData.depth, PyData.depthAll], by simp [wt, wtAll]⟩, by simp [nar, narAll]⟩
  · exact ⟨⟨by simp only [fit]; decide +kernel, by simp [PyData.depth], by simp [wt]⟩, by simp [nar]⟩
section
variable {P : Program} {w : World} {K : PySem.W.Frag} {mg : Str → Option Value} {base : Heap}
def spOdd (K : PySem.W.Frag) : Sp := fun vs H Q _ => ∃ (st c r : Addr) (t : Nat), vs = [.ref st] ∧ DS H st c r t ∧ t < 1000000 ∧
  ∀ (H' : Hp) (v : V) (d : PyData), DS H' st c r (t + 1) → Ext st r H H' → Dq K st r H' v d → Fit (10 ^ 29) 2 500 d → nar 2 d → Q v H'
set_option maxHeartbeats 2000000 in
theorem ok_odd {f fD : Addr} {fd fdD : FuncData} {k : Nat} (F : Fun K "_law_odd" "_law_odd" sOdd f fd)
    (FD : Fun K "_law_next" "_law_next" sDraw fD fdD) (bD : Binds K fdD ["_law_deck_here", "_law_many"] []) (gD : mg "_law_next" = some (.ref fD)) (GD : FnOk P w K mg base CX0 1 fD fdD ["_law_deck_here", "_law_many"] spDraw) :
    FnOk P w K mg base CX0 (1 + k + 1) f fd ["_law_deck_here"] (spOdd K) := by
  refine F.ok scOdd (fun vs H Q E h => ?_) (fun cdv A outer s H vs Q E hr h => ?_)
  · obtain ⟨st, c, r, t, rfl, _⟩ := h; rfl
  · obtain ⟨st, c, r, t, rfl, ds, ht, q⟩ := h
    refine ⟨_, pss_cons (ps_set (i := 1) scOdd.nd rfl (.inl rfl) (pe_lst (pa_cons pe_non (pa_cons pe_bl (pa_cons pe_bl (pa_cons (pe_un un_neg pe_int) (pa_cons pe_int (pa_cons pe_int (pa_cons (pe_op op_add (pe_op op_pow pe_int pe_int) pe_int) (pa_cons (pe_op op_pow pe_int pe_int)
        (pa_cons pe_str (pa_cons pe_str (pa_cons (pe_tup pa_nil) (pa_cons (pe_lstS pa_nil) (pa_cons pe_dnewK
        (pa_cons (pe_tup (pa_cons pe_int pa_nil)) (pa_cons (pe_lstS (pa_cons pe_int pa_nil)) (pa_cons (pe_tup (pa_cons pe_int (pa_cons pe_int pa_nil))) (pa_cons (pe_tup (pa_cons (pe_tup pa_nil) pa_nil)) (pa_cons pe_str pa_nil))))))))))))))))))))
      (pss_one (ps_ret (pe_ix ix_list (pv 1) (pe_call GD (hr.mono (by omega)) (by rfl) gD FD.kp bD .nil pass0 (pa_cons (pv 0) (pa_cons pe_int pa_nil))) (fun _ _ => rfl)))), ?_⟩
    refine ⟨1, rfl, _, _, rfl, rfl, ⟨by decide, by decide, by decide⟩, _, _, rfl, rfl, _, _, rfl, rfl, ⟨by decide, by decide, by decide⟩, Nat.zero_le _, fun p1 n1 => ⟨Nat.zero_le _, fun p2 n2 m2 p3 n3 => ?_⟩⟩
    have h1 : Dq K st r (upd H p1 (.tup [])) (.ref p1) (.tuple []) := .tup (SqT.of upd_same) .nil
    have s1 : Same H (upd H p1 (.tup [])) := sameNew n1
    have d1 := ds.same s1
    obtain ⟨o1, _, o2⟩ := d1.off n2
    have h2 : Dq K st r (upd (upd H p1 (.tup [])) p2 (.lst [])) (.ref p2) (.list []) := .lst upd_same o1 o2 m2 .nil
    generalize e2 : upd (upd H p1 (.tup [])) p2 (.lst []) = H2 at *
    have s2 : Same (upd H p1 (.tup [])) H2 := by rw [← e2]; exact sameNew n2
    have h3 : Dq K st r (upd H2 p3 (.dK [])) (.ref p3) (.dict []) := .dct (kvs := []) upd_same
    have s4 : Same H2 (upd H2 p3 (.dK [])) := sameNew n3
    generalize e4 : upd H2 p3 (.dK []) = H4 at *
    refine ⟨by decide, fun p5 n5 => ⟨by decide, fun p6 n6 m6 => ⟨by decide, fun p9 n9 => ⟨Nat.zero_le _, fun p7 n7 => ⟨(show (1 : Nat) ≤ sizeLine by decide), fun p8 n8 => ⟨(show (18 : Nat) ≤ sizeLine by decide), fun L nL => ?_⟩⟩⟩⟩⟩⟩
    have h5 : Dq K st r (upd H4 p5 (.tup [.int 0])) (.ref p5) (.tuple [.int 0]) := .tup (SqT.of upd_same) (.cons (.int 0) .nil)
    have s5 : Same H4 (upd H4 p5 (.tup [.int 0])) := sameNew n5
    have s05 := ((s1.trans s2).trans s4).trans s5
    obtain ⟨o3, _, o4⟩ := (ds.same s05).off n6
    generalize e5 : upd H4 p5 (.tup [.int 0]) = H5 at *
    have h6 : Dq K st r (upd H5 p6 (.lst [.int 0])) (.ref p6) (.list [.int 0]) := .lst upd_same o3 o4 m6 (.cons (.int 0) .nil)
    have s6 : Same H5 (upd H5 p6 (.lst [.int 0])) := sameNew n6
    generalize e6 : upd H5 p6 (.lst [.int 0]) = H6 at *
    have s7 : Same H6 (upd H6 p9 (.tup [.int 0, .int 0])) := sameNew n9
    have h9 : Dq K st r (upd H6 p9 (.tup [.int 0, .int 0])) (.ref p9) (.tuple [.int 0, .int 0]) := .tup (SqT.of upd_same) (.cons (.int 0) (.cons (.int 0) .nil))
    generalize e7 : upd H6 p9 (.tup [.int 0, .int 0]) = H7 at *
    have h7 : Dq K st r (upd H7 p7 (.tup [])) (.ref p7) (.tuple []) := .tup (SqT.of upd_same) .nil
    have s8 : Same H7 (upd H7 p7 (.tup [])) := sameNew n7
    generalize e8 : upd H7 p7 (.tup []) = H8 at *
    have s9 : Same H8 (upd H8 p8 (.tup [.ref p7])) := sameNew n8
    have h8 : Dq K st r (upd H8 p8 (.tup [.ref p7])) (.ref p8) (.tuple [.tuple []]) := .tup (SqT.of upd_same) (.cons (h7.lasts (.of s9)) .nil)
    generalize e9 : upd H8 p8 (.tup [.ref p7]) = H9 at *
    have s79 := s8.trans s9
    have s69 := s7.trans s79
    have s59 := s6.trans s69
    have s49 := s5.trans s59
    have s29 := s4.trans s49
    have s19 := s2.trans s29
    have s09 := s1.trans s19
    have hall : DqAll K st r H9 [.non, .bl true, .bl false, .int (-1), .int 0, .int 1, .int (10 ^ (12 : Int).toNat + 1), .int (10 ^ (29 : Int).toNat), .str "", .str "0", .ref p1, .ref p2, .ref p3, .ref p5, .ref p6, .ref p9, .ref p8, .str "a"] oddL :=
      .cons .non (.cons (.bl _) (.cons (.bl _) (.cons (.int _) (.cons (.int _) (.cons (.int _) (.cons (.int _) (.cons (.int _) (.cons (.str _) (.cons (.str _) (.cons (h1.lasts (.of s19)) (.cons (h2.lasts (.of s29)) (.cons (h3.lasts (.of s49))
        (.cons (h5.lasts (.of s59)) (.cons (h6.lasts (.of s69)) (.cons (h9.lasts (.of s79)) (.cons h8 (.cons (.str _) .nil)))))))))))))))))
    have sL := sameNew (o := .lst [.non, .bl true, .bl false, .int (-1), .int 0, .int 1, .int (10 ^ (12 : Int).toNat + 1), .int (10 ^ (29 : Int).toNat), .str "", .str "0", .ref p1, .ref p2, .ref p3, .ref p5, .ref p6, .ref p9, .ref p8, .str "a"]) nL
    have dL := ds.same (s09.trans sL)
    obtain ⟨oL1, _, oL2⟩ := (ds.same s09).off nL
    refine ⟨.ref L, rfl, .ref st, rfl, st, c, r, t, 18, rfl, dL, ht, by decide, by decide, fun H' d h0 h18 D' X' => ?_⟩
    obtain ⟨n, rfl⟩ : ∃ n : Nat, d = n := ⟨d.toNat, by omega⟩
    have hL := X' _ _ upd_same oL1 oL2
    have hallL := (hall.lasts (.of sL)).lasts (Lasts.ext dL X')
    generalize ev : ([.non, .bl true, .bl false, .int (-1), .int 0, .int 1, .int (10 ^ (12 : Int).toNat + 1), .int (10 ^ (29 : Int).toNat), .str "", .str "0", .ref p1, .ref p2, .ref p3, .ref p5, .ref p6, .ref p9, .ref p8, .str "a"] : List V) = vals at *
    have hvl : vals.length = 18 := by rw [← ev]; rfl
    have hn : n < vals.length := by omega
    obtain ⟨dd, hdd, hdq⟩ := DqAll.at hallL (List.getElem?_eq_getElem hn)
    have hof := odd_fit dd (List.mem_of_getElem? hdd)
    refine ⟨L, _, _, _, rfl, rfl, SqL.of ?_, atI_nat (List.getElem?_eq_getElem hn), q _ _ _ D' ((Ext.of (s09.trans sL)).trans X') hdq hof.1 hof.2⟩
    exact hL
end
end Pv

namespace Pv
open PySem PySem.Spec PyProof.Rows L2
abbrev sOth : Stmt := topS 27
theorem scOth : FnScope ["_law_deck_here", "_law_thing", "_law_course", "_law_beyond"] ["_law_deck_here", "_law_thing"] (defScope sOth) := ⟨rfl, rfl, rfl, by decide +kernel, rfl, by decide +kernel, by decide +kernel⟩
theorem seq_with {t u : TS} {D : Ends} {σ : L2.St} {H : Hp} (Pre : L2.St → Hp → Prop) (rest : ∀ σ1 H1, Pre σ1 H1 → u D σ1 H1) (main : (∀ σ1 H1, Pre σ1 H1 → u D σ1 H1) → tSeq t u D σ H) : tSeq t u D σ H := main rest
theorem str_fit {i : Int} {M k W : Nat} (h : i.natAbs ≤ M) (hM : M < 10 ^ 35) (hW : 400 ≤ W) : Fit M k W (.str (toString i : String)) := by
  refine ⟨?_, by simp [PyData.depth], by simpa only [Pv.wt] using hW⟩
  simp only [fit]
  have e := int_text_length_le10 (k := 35) (by decide) (show i.natAbs < 10 ^ 35 by omega)
  have hx : ∀ c ∈ (Str.ofString (toString i)).cps.toList, c < 16 ^ 8 := by
    intro c hc
    rw [PyProof.Rows.signs_ofString] at hc
    obtain ⟨ch, _, rfl⟩ := List.mem_map.mp hc
    exact Nat.lt_of_lt_of_le ch.val.toNat_lt (by decide)
  have e2 := StrLaws.reprText_len (Str.ofString (toString i)) hx
  rw [PySem.ofString_length] at e2
  omega
section
variable {P : Program} {w : World} {K : PySem.W.Frag} {mg : Str → Option Value} {base : Heap}
/-- what may stand in the place: a new list of at most two values -/
def spOth (K : PySem.W.Frag) : Sp := fun vs H Q _ => ∃ (st c r : Addr) (t : Nat) (v : V) (d : PyData) (M k W L : Nat), vs = [.ref st, v] ∧ DS H st c r t ∧ t + 3 ≤ 1000000 ∧ Dq K st r H v d ∧ Fit M k W d ∧ nar L d ∧ 10 ^ 29 ≤ M ∧ M < 10 ^ 34 ∧ W ≤ 1000000 ∧ 2 ≤ L ∧
  ∀ (H' : Hp) (p : Addr) (t' : Nat) (xs : List V) (ds : List PyData), DS H' st c r t' → t' ≤ t + 3 → Ext st r H H' → H' p = some (.lst xs) → p ≠ st → p ≠ r → DqAll K st r H' xs ds → ds.length ≤ 2 → (∀ x ∈ ds, Fit (M + 6) (k + 2) (W + 500) x ∧ nar L x) → Q (.ref p) H'
theorem nar_mono {L L' : Nat} (h : L ≤ L') : ∀ {d : PyData}, nar L d → nar L' d := by
  have key : ∀ n : Nat, ∀ d : PyData, sizeOf d < n → nar L d → nar L' d := by
    intro n
    induction n with
    | zero => intro d hd; omega
    | succ n ih =>
      intro d hd q
      cases d with
      | tuple xs =>
        obtain ⟨q1, q2⟩ := nar_tup.mp q
        exact nar_tup.mpr ⟨by omega, fun x hx => ih x (by have := List.sizeOf_lt_of_mem hx; simp at hd; omega) (q2 x hx)⟩
      | list xs =>
        simp only [nar] at q ⊢
        exact narAll_iff.mpr fun x hx => ih x (by have := List.sizeOf_lt_of_mem hx; simp at hd; omega) (narAll_iff.mp q x hx)
      | _ => simp [nar]
  exact fun {d} q => key (sizeOf d + 1) d (Nat.lt_succ_self _) q
set_option maxHeartbeats 4000000 in
theorem ok_oth {f fD fO : Addr} {fd fdD fdO : FuncData} {k : Nat} (F : Fun K "_law_otherwise" "_law_otherwise" sOth f fd)
    (FD : Fun K "_law_next" "_law_next" sDraw fD fdD) (bD : Binds K fdD ["_law_deck_here", "_law_many"] []) (gD : mg "_law_next" = some (.ref fD)) (GD : FnOk P w K mg base CX0 1 fD fdD ["_law_deck_here", "_law_many"] spDraw)
    (FO : Fun K "_law_odd" "_law_odd" sOdd fO fdO) (bO : Binds K fdO ["_law_deck_here"] []) (gO : mg "_law_odd" = some (.ref fO)) (GO : FnOk P w K mg base CX0 2 fO fdO ["_law_deck_here"] (spOdd K))
    (mi : mg "isinstance" = none) (mt : mg "tuple" = none) (mli : mg "list" = none) (mint : mg "int" = none) (mb : mg "bool" = none) (mst : mg "str" = none) :
    FnOk P w K mg base CX0 (2 + k + 1) f fd ["_law_deck_here", "_law_thing"] (spOth K) := by
  refine F.ok scOth (fun vs H Q E h => ?_) (fun cdv A outer s H vs Q E hr h => ?_)
  · obtain ⟨st, c, r, t, v, d, M, kk, W, L, rfl, _⟩ := h; rfl
  · obtain ⟨st, c, r, t, v, d, M, kk, W, L, rfl, d0, ht, hd, hf, hnar, hM, hM2, hW, hL2, q⟩ := h
    refine ⟨_, pss_cons (ps_set (i := 2) scOth.nd rfl (.inl rfl) (pe_call GD (hr.mono (by omega)) (by rfl) gD FD.kp bD .nil pass0 (pa_cons (pv 0) (pa_cons pe_int pa_nil))))
      (pss_cons (ps_if (PW.pt (pw_and (pt_val (pe_callB call_isi (by rfl) mi (by decide +kernel) (pa_cons (pv 1) (pa_cons (pe_bltn (v := .ty "int") (by rfl) mint (by decide +kernel) rfl) pa_nil))))
          (pw_and (pt_not (pt_val (pe_callB call_isi (by rfl) mi (by decide +kernel) (pa_cons (pv 1) (pa_cons (pe_bltn (v := .ty "bool") (by rfl) mb (by decide +kernel) rfl) pa_nil))))) (pw_and1 (pt_cmpR op_lt (pv 2) pe_int (nomark _))))))
        (pss_cons (ps_set (i := 3) scOth.nd rfl (.inl rfl) (pe_lst (pa_cons (pe_op op_add (pv 1) pe_int) (pa_cons (pe_op op_sub (pv 1) pe_int) (pa_cons (pe_cmpR op_eq (pv 1) pe_int (nomark _)) (pa_cons (pe_op op_sub pe_int (pv 1)) (pa_cons (pe_op op_add (pe_op op_pow pe_int pe_int) pe_int)
          (pa_cons (pe_op op_add (pv 1) pe_int) (pa_cons (pe_callTy call_str_int (by rfl) mst (by decide +kernel) (pa_cons (pv 1) pa_nil)) (pa_cons pe_int pa_nil))))))))))
        (pss_one (ps_ret (pe_lst (pa_cons (pe_ix ix_list (pv 3) (pe_call GD (hr.mono (by omega)) (by rfl) gD FD.kp bD .nil pass0 (pa_cons (pv 0) (pa_cons pe_int pa_nil))) (fun _ _ => rfl)) pa_nil))))) pss_nil)
      (pss_cons (ps_if (PW.pt (pw_and (pt_val (pe_callB call_isi (by rfl) mi (by decide +kernel) (pa_cons (pv 1) (pa_cons (pe_bltn (v := .ty "tuple") (by rfl) mt (by decide +kernel) rfl) pa_nil)))) (pw_and1 (pt_cmpR op_lt (pv 2) pe_int (nomark _)))))
        (pss_one (ps_ret (pe_lst (pa_cons (pe_ix ix_list (pe_lst (pa_cons (pe_callTy call_listS (by rfl) mli (by decide +kernel) (pa_cons (pv 1) pa_nil)) (pa_cons (pe_revT (pv 1)) pa_nil))) (pv 2) (fun _ _ => rfl)) pa_nil)))) pss_nil)
      (pss_cons (ps_if (pt_cmpR op_eq (pv 2) pe_int (nomark _)) (pss_one (ps_ret (pe_lst pa_nil))) pss_nil)
      (pss_cons (ps_if (pt_cmpR op_eq (pv 2) pe_int (nomark _)) (pss_one (ps_ret (pe_lst (pa_cons (pv 1) (pa_cons (pv 1) pa_nil))))) pss_nil)
      (pss_one (ps_ret (pe_lst (pa_cons (pe_call GO (hr.mono (by omega)) (by rfl) gO FO.kp bO .nil pass0 (pa_cons (pv 0) pa_nil)) pa_nil)))))))), ?_⟩
    refine ⟨.ref st, rfl, st, c, r, t, 9, rfl, d0, by omega, by decide, by decide, fun H2 cs c0 c9 D2 X2 => ?_⟩
    obtain ⟨cn, rfl⟩ : ∃ m : Nat, cs = m := ⟨cs.toNat, by omega⟩
    have L02 := Lasts.ext d0 X2
    have hd2 := hd.lasts L02
    dsimp only [gName]
    refine seq_with (t := tIfS _ _ _) (fun σ1 H1 => σ1 = [some (.ref st), some v, some (.int cn), none] ∧ H2 = H1) ?rest (fun rest => ?main)
    case main =>
      refine ⟨v, rfl, v, .ty "int", _, _, _, rfl, .ty _, hd2.ty, kit_int d, _, rfl, ite2 (fun h1 => ?_) (fun h1 => rest _ _ ⟨rfl, rfl⟩)⟩
      refine ⟨v, rfl, v, .ty "bool", _, _, _, rfl, .ty _, hd2.ty, kit_bool d, _, rfl, ite2 (fun h2 => ?_) (fun h2 => rest _ _ ⟨rfl, rfl⟩)⟩
      refine ⟨.int cn, rfl, _, _, rfl, rfl, _, rfl, ite2 (fun h3 => ?_) (fun h3 => rest _ _ ⟨rfl, rfl⟩)⟩
      cases d with
      | bool b => simp [isBool] at h2
      | none | str _ | list _ | tuple _ | dict _ => simp [isInt] at h1
      | int i =>
      cases hd2
      have hi := hf.ok
      simp only [fit] at hi
      have hlog : i.natAbs.log2 < 1920 := by have := (int_text (M := M) hi (by omega)).1; simpa [PyData.showable] using this
      refine ⟨.int i, rfl, _, _, rfl, rfl, .int i, rfl, _, _, rfl, rfl, .int i, rfl, rfl, .int i, rfl, _, _, rfl, rfl, _, _, rfl, rfl, ⟨by decide, by decide, by decide⟩, _, _, rfl, rfl, .int i, rfl, _, _, rfl, rfl, .int i, rfl, i, rfl, hlog, (show (8 : Nat) ≤ sizeLine by decide), fun B nB => ?_⟩
      have hW40 : 40 ≤ W := by have := hf.wt; simpa only [Pv.wt] using this
      have hall : ∀ Hx : Hp, DqAll K st r Hx [.int (i + 1), .int (i - 1), .bl (decide (V.int i = V.int 1)), .int (0 - i), .int (10 ^ (12 : Int).toNat + 1), .int (i + 6), .str (toString i : String), .int 0] [.int (i + 1), .int (i - 1), .bool (decide (V.int i = V.int 1)), .int (0 - i), .int (10 ^ (12 : Int).toNat + 1), .int (i + 6), .str (toString i : String), .int 0] :=
        fun Hx => .cons (.int _) (.cons (.int _) (.cons (.bl _) (.cons (.int _) (.cons (.int _) (.cons (.int _) (.cons (.str _) (.cons (.int _) .nil)))))))
      have hfit : ∀ x ∈ [PyData.int (i + 1), .int (i - 1), .bool (decide (V.int i = V.int 1)), .int (0 - i), .int (10 ^ (12 : Int).toNat + 1), .int (i + 6), .str (toString i : String), .int 0], Fit (M + 6) (kk + 2) (W + 500) x ∧ nar L x := by
        intro x hx
        simp only [List.mem_cons, List.not_mem_nil, or_false] at hx
        rcases hx with rfl | rfl | rfl | rfl | rfl | rfl | rfl | rfl
        · exact ⟨Fit.int (by omega) (by omega), by simp [nar]⟩
        · exact ⟨Fit.int (by omega) (by omega), by simp [nar]⟩
        · exact ⟨⟨by simp [fit], by simp [PyData.depth], by simp only [Pv.wt]; omega⟩, by simp [nar]⟩
        · exact ⟨Fit.int (by omega) (by omega), by simp [nar]⟩
        · exact ⟨Fit.int (Nat.le_trans (show ((10 : Int) ^ (12 : Int).toNat + 1).natAbs ≤ 10 ^ 29 by decide) (by omega)) (by omega), by simp [nar]⟩
        · exact ⟨Fit.int (by omega) (by omega), by simp [nar]⟩
        · exact ⟨(str_fit (k := kk + 2) (W := W + 500) hi (by omega) (by omega)).mono (by omega) (Nat.le_refl _) (Nat.le_refl _), by simp [nar]⟩
        · exact ⟨Fit.int (by omega) (by omega), by simp [nar]⟩
      obtain ⟨oB1, _, oB2⟩ := D2.off nB
      refine ⟨.ref B, rfl, .ref st, rfl, st, c, r, t + 1, 8, rfl, D2.new nB, by omega, by decide, by decide, fun H3 e e0 e8 D3 X3 => ?_⟩
      obtain ⟨en, rfl⟩ : ∃ m : Nat, e = m := ⟨e.toNat, by omega⟩
      have eB := X3 _ _ upd_same oB1 oB2
      have hn8 : en < ([.int (i + 1), .int (i - 1), .bl (decide (V.int i = V.int 1)), .int (0 - i), .int (10 ^ (12 : Int).toNat + 1), .int (i + 6), .str (toString i : String), .int 0] : List V).length := by
        show en < 8
        omega
      obtain ⟨dd, hdd, hdq⟩ := DqAll.at (hall H3) (List.getElem?_eq_getElem hn8)
      refine ⟨B, _, _, _, rfl, rfl, SqL.of eB, atI_nat (List.getElem?_eq_getElem hn8), (show (1 : Nat) ≤ sizeLine by decide), fun R nR => ?_⟩
      obtain ⟨oR1, _, oR2⟩ := D3.off nR
      refine q _ R _ _ [dd] (D3.new nR) (by omega) ((X2.trans (Ext.of (sameNew nB))).trans (X3.trans (Ext.of (sameNew nR)))) upd_same oR1 oR2 (.cons (hdq.lasts (.new nR)) .nil) (by simp) ?_
      intro x hx
      rw [List.mem_singleton] at hx
      subst hx
      exact hfit _ (List.mem_of_getElem? hdd)
    case rest =>
      rintro _ _ ⟨rfl, rfl⟩
      refine seq_with (t := tIfS _ _ _) (fun σ1 H1 => σ1 = [some (.ref st), some v, some (.int cn), none] ∧ H2 = H1) ?rest2 (fun rest => ?main2)
      case main2 =>
        refine ⟨v, rfl, v, .ty "tuple", _, _, _, rfl, .ty _, hd2.ty, kit_tup d, _, rfl, ite2 (fun h1 => ?_) (fun h1 => rest _ _ ⟨rfl, rfl⟩)⟩
        refine ⟨.int cn, rfl, _, _, rfl, rfl, _, rfl, ite2 (fun h3 => ?_) (fun h3 => rest _ _ ⟨rfl, rfl⟩)⟩
        cases d with
        | none | bool _ | int _ | str _ | list _ | dict _ => simp [isTup] at h1
        | tuple ds =>
        cases hd2 with
        | @tup a xs _ hT ha =>
        have h2 : cn < 2 := by have := of_decide_eq_true h3; omega
        obtain ⟨hp1, hp2, hp3⟩ := hf.parts
        obtain ⟨hna, hnb⟩ := nar_tup.mp hnar
        refine ⟨.ref a, rfl, a, xs, rfl, hT, fun Lx nLx mLx => ⟨.ref a, rfl, a, xs, rfl, (TupK.new nLx).sq hT, fun p np => ⟨(show (2 : Nat) ≤ sizeLine by decide), fun Z nZ => ?_⟩⟩⟩
        obtain ⟨oL1, _, oL2⟩ := D2.off nLx
        have sL : Same H2 (upd H2 Lx (.lst xs)) := sameNew nLx
        have sp : Same (upd H2 Lx (.lst xs)) (upd (upd H2 Lx (.lst xs)) p (.tup xs.reverse)) := sameNew np
        have sZ : Same (upd (upd H2 Lx (.lst xs)) p (.tup xs.reverse)) (upd (upd (upd H2 Lx (.lst xs)) p (.tup xs.reverse)) Z (.lst [.ref Lx, .ref p])) := sameNew nZ
        have s2Z := (sL.trans sp).trans sZ
        have haZ := ha.lasts (Lasts.of (st := st) (r := r) s2Z)
        have hall : DqAll K st r (upd (upd (upd H2 Lx (.lst xs)) p (.tup xs.reverse)) Z (.lst [.ref Lx, .ref p])) [.ref Lx, .ref p] [.list ds, .tuple ds.reverse] :=
          .cons (.lst ((sp.trans sZ) _ _ upd_same) oL1 oL2 mLx haZ) (.cons (.tup ((TupK.of sZ).sq (SqT.of upd_same)) haZ.rev) .nil)
        have hfit : ∀ x ∈ [PyData.list ds, .tuple ds.reverse], Fit (M + 6) (kk + 2) (W + 500) x ∧ nar L x := by
          intro x hx
          simp only [List.mem_cons, List.not_mem_nil, or_false] at hx
          rcases hx with rfl | rfl
          · exact ⟨Fit.lst (fun e he => ⟨fit_mono (by omega) (hp1 e he).1, by have := (hp1 e he).2; omega⟩) (by omega) (by omega), by simp only [nar]; exact narAll_iff.mpr hnb⟩
          · exact ⟨Fit.tup (fun e he => ⟨fit_mono (by omega) (hp1 e (List.mem_reverse.mp he)).1, by have := (hp1 e (List.mem_reverse.mp he)).2; omega⟩) (by omega) (by rw [wtAll_rev]; omega), nar_tup.mpr ⟨by rw [List.length_reverse]; exact hna, fun x hx => hnb x (List.mem_reverse.mp hx)⟩⟩
        have hn2 : cn < ([.ref Lx, .ref p] : List V).length := h2
        obtain ⟨dd, hdd, hdq⟩ := DqAll.at hall (List.getElem?_eq_getElem hn2)
        refine ⟨.int cn, rfl, Z, _, _, _, rfl, rfl, SqL.of upd_same, atI_nat (List.getElem?_eq_getElem hn2), (show (1 : Nat) ≤ sizeLine by decide), fun R nR => ?_⟩
        have DZ := D2.same s2Z
        obtain ⟨oR1, _, oR2⟩ := DZ.off nR
        refine q _ R _ _ [dd] (DZ.new nR) (by omega) (X2.trans ((Ext.of s2Z).trans (Ext.of (sameNew nR)))) upd_same oR1 oR2 (.cons (hdq.lasts (.new nR)) .nil) (by simp) ?_
        intro x hx
        rw [List.mem_singleton] at hx
        subst hx
        exact hfit _ (List.mem_of_getElem? hdd)
      case rest2 =>
        rintro _ _ ⟨rfl, rfl⟩
        have hfv : Fit (M + 6) (kk + 2) (W + 500) d ∧ nar L d := ⟨hf.mono (by omega) (by omega) (by omega), hnar⟩
        refine ⟨.int cn, rfl, rfl, _, rfl, ite2 (fun h5 => ?_) (fun h5 => ?_)⟩
        · refine ⟨Nat.zero_le _, fun R nR => ?_⟩
          obtain ⟨oR1, _, oR2⟩ := D2.off nR
          exact q _ R (t + 1) [] [] (D2.new nR) (by omega) (X2.trans (Ext.of (sameNew nR))) upd_same oR1 oR2 .nil (by simp) (fun x hx => by cases hx)
        refine ⟨.int cn, rfl, rfl, _, rfl, ite2 (fun h6 => ?_) (fun h6 => ?_)⟩
        · refine ⟨v, rfl, v, rfl, (show (2 : Nat) ≤ sizeLine by decide), fun R nR => ?_⟩
          obtain ⟨oR1, _, oR2⟩ := D2.off nR
          refine q _ R (t + 1) [v, v] [d, d] (D2.new nR) (by omega) (X2.trans (Ext.of (sameNew nR))) upd_same oR1 oR2 (.cons (hd2.lasts (.new nR)) (.cons (hd2.lasts (.new nR)) .nil)) (by simp) ?_
          intro x hx
          simp only [List.mem_cons, List.not_mem_nil, or_false, or_self] at hx
          subst hx
          exact hfv
        · refine ⟨.ref st, rfl, st, c, r, t + 1, rfl, D2, by omega, fun H3 v3 d3 D3 X3 h3 f3 n3 => ⟨(show (1 : Nat) ≤ sizeLine by decide), fun R nR => ?_⟩⟩
          obtain ⟨oR1, _, oR2⟩ := D3.off nR
          refine q _ R _ [v3] [d3] (D3.new nR) (by omega) (X2.trans (X3.trans (Ext.of (sameNew nR)))) upd_same oR1 oR2 (.cons (h3.lasts (.new nR)) .nil) (by simp) ?_
          intro x hx
          rw [List.mem_singleton] at hx
          subst hx
          exact ⟨f3.mono (by omega) (by omega) (by omega), nar_mono hL2 n3⟩
end
end Pv

namespace Pv
open PySem PySem.Spec PyProof.Rows L2
abbrev sSpo : Stmt := topS 28
theorem scSpo : FnScope ["_law_deck_here", "_law_thing", "_law_path", "_law_one_here", "_law_spot", "_law_new", "_law_outer"] ["_law_deck_here", "_law_thing"] (defScope sSpo) := ⟨rfl, rfl, rfl, by decide +kernel, rfl, by decide +kernel, by decide +kernel⟩
inductive Chain (K : PySem.W.Frag) (st r : Addr) (H0 H : Hp) (v : V) (d : PyData) : List V → V → PyData → Prop
  | nil : Chain K st r H0 H v d [] v d
  | snoc {ps : List V} {a q : Addr} {xs : List V} {ds : List PyData} {s : Nat} {x : V} {dx : PyData} : Chain K st r H0 H v d ps (.ref a) (.tuple ds) → SqT K H q [.ref a, .int (s : Nat)] → SqT K H0 a xs → DqAll K st r H0 xs ds → xs[s]? = some x → ds[s]? = some dx → Chain K st r H0 H v d (ps ++ [.ref q]) x dx
section
variable {P : Program} {w : World} {K : PySem.W.Frag} {mg : Str → Option Value} {base : Heap} {st r : Addr} {H0 H H' : Hp} {v : V} {d : PyData}
theorem Chain.tk (l : TupK H H') {ps : List V} {x : V} {dx : PyData} (h : Chain K st r H0 H v d ps x dx) : Chain K st r H0 H' v d ps x dx := by
  induction h with
  | nil => exact .nil
  | snoc _ h2 h3 h4 h5 h6 ih => exact .snoc ih (l.sq h2) h3 h4 h5 h6
theorem Chain.inv {ps l : List V} {y x : V} {dx : PyData} (h : Chain K st r H0 H v d ps x dx) (e : ps = l ++ [y]) :
    ∃ (q a : Addr) (xs : List V) (ds : List PyData) (s : Nat), y = .ref q ∧ Chain K st r H0 H v d l (.ref a) (.tuple ds) ∧ SqT K H q [.ref a, .int (s : Nat)] ∧ SqT K H0 a xs ∧ DqAll K st r H0 xs ds ∧ xs[s]? = some x ∧ ds[s]? = some dx := by
  cases h with
  | nil => simp at e
  | snoc h1 h2 h3 h4 h5 h6 =>
    obtain ⟨e1, e2⟩ := List.append_inj' e rfl
    subst e1
    cases e2
    exact ⟨_, _, _, _, _, rfl, h1, h2, h3, h4, h5, h6⟩
theorem Chain.fit {M k W L : Nat} (hf : Fit M k W d) (hn : nar L d) {ps : List V} {x : V} {dx : PyData} (h : Chain K st r H0 H v d ps x dx) : Fit M k W dx ∧ nar L dx ∧ dx.depth + ps.length ≤ d.depth := by
  induction h with
  | nil => exact ⟨hf, hn, by simp⟩
  | snoc _ _ _ _ _ h6 ih =>
    have hm := List.mem_of_getElem? h6
    obtain ⟨f1, f2, f3⟩ := ih.1.at hm
    exact ⟨f1.mono (Nat.le_refl _) (by omega) (Nat.le_refl _), (nar_tup.mp ih.2.1).2 _ hm, by have := ih.2.2; simp; omega⟩
theorem hf1_at {M k W : Nat} {ds : List PyData} {s : Nat} {dx : PyData} (h : Fit M k W (.tuple ds)) (e : ds[s]? = some dx) : dx.depth < (PyData.tuple ds).depth := by
  have := (h.at (List.mem_of_getElem? e)).2.1
  omega
theorem wtAll_at {ds : List PyData} {i : Nat} {d : PyData} (h : ds[i]? = some d) : wtAll ds = wtAll (ds.take i) + (wt d + 2) + wtAll (ds.drop (i + 1)) := by
  have e : ds.take (i + 1) = ds.take i ++ [d] := take_snoc h
  have := wtAll_split ds (i + 1)
  rw [e, wtAll_app] at this
  simp only [wtAll] at this
  omega
theorem cut_from (xs : List V) (n : Nat) : cutV xs (some (n : Int)) none = xs.drop n := by
  unfold cutV
  rw [HT.sIx_nat, HT.sIx_none]
  by_cases h : n ≤ xs.length
  · rw [Nat.min_eq_left h, List.take_of_length_le (by rw [List.length_drop]; exact Nat.le_refl _)]
  · rw [Nat.min_eq_right (by omega), List.drop_eq_nil_of_le (Nat.le_refl _), List.drop_eq_nil_of_le (by omega)]; simp
theorem sl_any {a : Addr} {xs : List V} {lo hi : Option Int} (hP : SqT K H a xs) {Q : VK} (h : ∀ (H' : Hp) (b : Addr), Same H H' → SqT K H' b (cutV xs lo hi) → Q (.ref b) H') : rSlA K (.ref a) lo hi H Q := by
  refine ⟨a, _, rfl, hP, fun hw => ?_, fun _ p np => ?_⟩
  · refine h H a (Same.refl _) ?_
    have e : cutV xs lo hi = xs := by
      unfold cutV
      rw [hw.1, hw.2, List.drop_zero, Nat.sub_zero, List.take_length]
    rw [e]; exact hP
  · exact h _ p (sameNew np) (SqT.of upd_same)
theorem cat_any {a b : Addr} {xs ys : List V} (ha : SqT K H a xs) (hb : SqT K H b ys) (hz : xs.length + ys.length ≤ 1000000) {Q : VK} (h : ∀ (H' : Hp) (c : Addr), Same H H' → SqT K H' c (xs ++ ys) → Q (.ref c) H') : rCatA K (.ref a) (.ref b) H Q := by
  refine ⟨a, b, xs, ys, rfl, rfl, ha, hb, Nat.le_of_lt (small hz), fun z => ?_, fun _ z => ?_, fun _ _ p np => ?_⟩
  · subst z; exact h H b (Same.refl _) hb
  · subst z; exact h H a (Same.refl _) (by rw [List.append_nil]; exact ha)
  · exact h _ p (sameNew np) (SqT.of upd_same)
end
section
variable {P : Program} {w : World} {K : PySem.W.Frag} {mg : Str → Option Value} {base : Heap}
def spSpo (K : PySem.W.Frag) : Sp := fun vs H Q _ => ∃ (st c r : Addr) (t : Nat) (v : V) (d : PyData) (M k W L : Nat), vs = [.ref st, v] ∧ DS H st c r t ∧ t + 100 ≤ 1000000 ∧ Dq K st r H v d ∧ Fit M k W d ∧ nar L d ∧ 10 ^ 29 ≤ M ∧ M < 10 ^ 34 ∧ W ≤ 300000 ∧ 2 ≤ L ∧ L ≤ 40 ∧ k ≤ 30 ∧
  ∀ (H' : Hp) (v' : V) (d' : PyData) (t' : Nat), DS H' st c r t' → t' ≤ t + 100 → Ext st r H H' → Dq K st r H' v' d' → Fit (M + 6) (k + 2) (2 * W + 2000) d' → nar (L + 1) d' → Q v' H'
set_option maxHeartbeats 4000000 in
theorem ok_spo {f fD fO : Addr} {fd fdD fdO : FuncData} {k : Nat} (F : Fun K "_law_spoilt" "_law_spoilt" sSpo f fd)
    (FD : Fun K "_law_next" "_law_next" sDraw fD fdD) (bD : Binds K fdD ["_law_deck_here", "_law_many"] []) (gD : mg "_law_next" = some (.ref fD)) (GD : FnOk P w K mg base CX0 1 fD fdD ["_law_deck_here", "_law_many"] spDraw)
    (FO : Fun K "_law_otherwise" "_law_otherwise" sOth fO fdO) (bO : Binds K fdO ["_law_deck_here", "_law_thing"] []) (gO : mg "_law_otherwise" = some (.ref fO)) (GO : FnOk P w K mg base CX0 3 fO fdO ["_law_deck_here", "_law_thing"] (spOth K))
    (mi : mg "isinstance" = none) (mt : mg "tuple" = none) (ml : mg "len" = none) (mrv : mg "reversed" = none) :
    FnOk P w K mg base CX0 (3 + k + 1) f fd ["_law_deck_here", "_law_thing"] (spSpo K) := by
  refine F.ok scSpo (fun vs H Q E h => ?_) (fun cdv A outer s H vs Q E hr h => ?_)
  · obtain ⟨st, c, r, t, v, d, M, kk, W, L, rfl, _⟩ := h; rfl
  · obtain ⟨st, c, r, t, v, d, M, kk, W, L, rfl, d0, ht, hd, hf, hnar, hM, hM2, hW, hL2, hL40, hk, q⟩ := h
    have hu0 : (A.deeper (envOfC "_law_spoilt" (defScope sSpo) s.heap.objs.size f cdv)).units < cLine := by have := hr.un; omega
    refine ⟨_, pss_cons (ps_set (i := 2) scSpo.nd rfl (.inl rfl) (pe_lst pa_nil))
      (pss_cons (ps_set (i := 3) scSpo.nd rfl (.inl rfl) (pv 1))
      (pss_cons (ps_while PassesOwn.never (PW.pt (pw_and (pt_val (pe_callB call_isi (by rfl) mi (by decide +kernel) (pa_cons (pv 3) (pa_cons (pe_bltn (v := .ty "tuple") (by rfl) mt (by decide +kernel) rfl) pa_nil))))
          (pw_and (pt_cmpR (op_neNilT hu0) (pv 3) (pe_tup pa_nil) (nomark _)) (pw_and1 (pt_cmpR op_gt (pe_call GD (hr.mono (by omega)) (by rfl) gD FD.kp bD .nil pass0 (pa_cons (pv 0) (pa_cons pe_int pa_nil))) pe_int (nomark _))))))
        (pss_cons (ps_set (i := 4) scSpo.nd rfl (.inl rfl) (pe_call GD (hr.mono (by omega)) (by rfl) gD FD.kp bD .nil pass0 (pa_cons (pv 0) (pa_cons (pe_callB call_len_seq (by rfl) ml PySem.boot_len (pa_cons (pv 3) pa_nil)) pa_nil))))
        (pss_cons (ps_expr (pe_bm PySem.F.plainAttrs_list PySem.F.slot_list_append PySem.F.type_list_append mt_append (pv 2) (pa_cons (pe_tup (pa_cons (pv 3) (pa_cons (pv 4) pa_nil))) pa_nil)))
        (pss_one (ps_set (i := 3) scSpo.nd rfl (.inl rfl) (pe_ix ix_tup (pv 3) (pv 4) (fun _ _ => rfl)))))))
      (pss_cons (ps_set (i := 5) scSpo.nd rfl (.inl rfl) (pe_call GO (hr.mono (by omega)) (by rfl) gO FO.kp bO .nil pass0 (pa_cons (pv 0) (pa_cons (pv 3) pa_nil))))
      (pss_cons (ps_for PassesOwn.never rfl (pi_reversed (by rfl) mrv (pa_cons (pv 2) pa_nil)) (pg_tup rfl (pgs_cons (pg_name (i := 6) scSpo.nd rfl (.inl rfl)) (pgs_cons (pg_name (i := 4) scSpo.nd rfl (.inl rfl)) pgs_nil)))
        (pss_one (ps_set (i := 5) scSpo.nd rfl (.inl rfl) (pe_lst (pa_cons (pe_op op_catA (pe_op op_catA (pe_slice sl_tupA (pv 6) po_none (po_some (pv 4))) (pe_callTy call_tuple_of (by rfl) mt (by decide +kernel) (pa_cons (pv 5) pa_nil)))
          (pe_slice sl_tupA (pv 6) (po_some (pe_op op_add (pv 4) pe_int)) po_none)) pa_nil)))))
      (pss_one (ps_ret (pe_ix ix_list (pe_op op_cat (pv 5) (pe_lst (pa_cons pe_non pa_nil))) pe_int (fun _ _ => rfl)))))))), ?_⟩
    refine ⟨Nat.zero_le _, fun Pa nPa => ⟨v, rfl, ?_⟩⟩
    obtain ⟨oP1, oPc, oP2⟩ := d0.off nPa
    have hd1 := hd.lasts (Lasts.new (st := st) (r := r) (o := .lst []) nPa)
    dsimp only [gName]
    refine seq_with (fun σ1 H2 => ∃ (ps : List V) (y4 : Option V) (tx : Nat) (one : V) (d1 : PyData), σ1 = [some (.ref st), some v, some (.ref Pa), some one, y4, none, none] ∧ H2 Pa = some (.lst ps) ∧ DS H2 st c r tx ∧ tx ≤ t + 2 * ps.length + 1 ∧ Ext st r H H2 ∧
        Chain K st r H H2 v d ps one d1 ∧ Dq K st r H one d1) ?rest (fun rest => ?main)
    case main =>
      refine ⟨fun m σ H2 => ∃ (ps : List V) (y4 : Option V) (tx : Nat) (one : V) (d1 : PyData), σ = [some (.ref st), some v, some (.ref Pa), some one, y4, none, none] ∧ H2 Pa = some (.lst ps) ∧ DS H2 st c r tx ∧ tx ≤ t + 2 * ps.length ∧ Ext st r H H2 ∧
          Chain K st r H H2 v d ps one d1 ∧ Dq K st r H one d1 ∧ d1.depth = m, ⟨d.depth, [], none, t, v, d, rfl, upd_same, d0.new nPa, by simp, Ext.of (sameNew nPa), .nil, hd, rfl⟩, ?_⟩
      rintro m σ H2 ⟨ps, y4, tx, one, d1, rfl, eP, D2, htx, X2, hch, ho, rfl⟩
      obtain ⟨f1, n1, hdl⟩ := hch.fit hf hnar
      have hdk := hf.dp
      have L02 := Lasts.ext d0 X2
      refine ⟨one, rfl, one, .ty "tuple", _, _, _, rfl, .ty _, (ho.lasts L02).ty, kit_tup d1, _, rfl, ite2 (fun h1 => ?_) (fun h1 => rest _ _ ⟨ps, y4, tx, one, d1, rfl, eP, D2, by omega, X2, hch, ho⟩)⟩
      cases d1 with
      | none | bool _ | int _ | str _ | list _ | dict _ => simp [isTup] at h1
      | tuple ds =>
      cases ho with
      | @tup a xs _ hT0 ha =>
      have hT := L02.tk.sq hT0
      have hl := DqAll.len ha
      have hlen := (nar_tup.mp n1).1
      refine ⟨.ref a, rfl, Nat.zero_le _, fun e ne => ⟨a, e, xs, rfl, rfl, (TupK.new ne).sq hT, SqT.of upd_same, _, rfl, ite2 (fun h2 => ?_) (fun h2 => ?_)⟩⟩
      · have hxs : 0 < xs.length := by
          cases xs with
          | nil => simp at h2
          | cons _ _ => simp
        have se : Same H2 (upd H2 e (.tup [])) := sameNew ne
        refine ⟨.ref st, rfl, st, c, r, tx, 6, rfl, D2.same se, by omega, by decide, by decide, fun H3 g6 g0 g1 D3 X3 => ⟨_, _, rfl, rfl, _, rfl, ite2 (fun h3 => ?_) (fun h3 => ?_)⟩⟩
        · have X23 := (Ext.of se).trans X3
          have L23 := Lasts.ext D2 X23
          have hT3 := L23.tk.sq hT
          have eP3 := L23.ls _ _ eP oP1 oP2
          refine ⟨fun σ' H' => ∃ (ps : List V) (y4 : Option V) (tx : Nat) (one : V) (d1 : PyData), σ' = [some (.ref st), some v, some (.ref Pa), some one, y4, none, none] ∧ H' Pa = some (.lst ps) ∧ DS H' st c r tx ∧ tx ≤ t + 2 * ps.length ∧ Ext st r H H' ∧
              Chain K st r H H' v d ps one d1 ∧ Dq K st r H one d1 ∧ d1.depth < (PyData.tuple ds).depth, ?_, ?_⟩
          · rintro σ' H' ⟨ps2, z4, t2, o2, d2, e1, e2, r1, r2, r3, r4, r5, r6⟩
            exact ⟨d2.depth, r6, ps2, z4, t2, o2, d2, e1, e2, r1, r2, r3, r4, r5, rfl⟩
          · refine ⟨.ref st, rfl, .ref a, rfl, a, xs, rfl, .inr hT3, st, c, r, tx + 1, _, rfl, D3, by omega, by omega, by omega, fun H4 sp p0 p1 D4 X4 => ?_⟩
            obtain ⟨sn, rfl⟩ : ∃ m : Nat, sp = m := ⟨sp.toNat, by omega⟩
            have hsn : sn < xs.length := by omega
            have L34 := Lasts.ext D3 X4
            have hT4 := L34.tk.sq hT3
            have eP4 := L34.ls _ _ eP3 oP1 oP2
            obtain ⟨dx, hdx, hxd⟩ := DqAll.at ha (List.getElem?_eq_getElem hsn)
            refine ⟨.ref Pa, rfl, .inl ⟨rfl, _, SqL.of eP4⟩, .ref a, rfl, .int sn, rfl, (show (2 : Nat) ≤ sizeLine by decide), fun T nT => ?_⟩
            have eP5 := upNew (o := .tup [.ref a, .int (sn : Nat)]) nT eP4
            refine ⟨Pa, _, _, rfl, rfl, eP5, small (by omega), ?_⟩
            have tkT : TupK H4 (upd H4 T (.tup [.ref a, .int (sn : Nat)])) := TupK.new nT
            have tkP : TupK (upd H4 T (.tup [.ref a, .int (sn : Nat)])) (upd (upd H4 T (.tup [.ref a, .int (sn : Nat)])) Pa (.lst (ps ++ [.ref T]))) := TupK.put eP5
            have tk26 := ((L23.tk.trans L34.tk).trans tkT).trans tkP
            refine ⟨.ref a, rfl, .int sn, rfl, a, xs, _, _, rfl, rfl, (tkT.trans tkP).sq hT4, atI_nat (List.getElem?_eq_getElem hsn), ps ++ [.ref T], _, tx + 1 + 1, xs[sn], dx, rfl, upd_same, (D4.new nT).put oP1 oPc oP2, by simp; omega, ExtPut ((X2.trans (X23.trans X4)).trans (Ext.of (sameNew nT))) nPa, .snoc (hch.tk tk26) (tkP.sq (SqT.of upd_same)) hT0 ha (List.getElem?_eq_getElem hsn) hdx, hxd, ?_⟩
            have := (hf1_at f1 hdx)
            omega
        · exact rest _ _ ⟨ps, y4, tx + 1, .ref a, .tuple ds, rfl, (Lasts.ext D2 ((Ext.of se).trans X3)).ls _ _ eP oP1 oP2, D3, by omega, X2.trans ((Ext.of se).trans X3), hch.tk (Lasts.ext D2 ((Ext.of se).trans X3)).tk, .tup hT0 ha⟩
      · exact rest _ _ ⟨ps, y4, tx, .ref a, .tuple ds, rfl, upNew ne eP, D2.new ne, by omega, X2.trans (Ext.of (sameNew ne)), hch.tk (TupK.new ne), .tup hT0 ha⟩
    case rest =>
      rintro _ H2 ⟨ps, y4, tx, one, d1, rfl, eP, D2, htx, X2, hch, ho⟩
      obtain ⟨f1, n1, hdl⟩ := hch.fit hf hnar
      have hdk := hf.dp
      have L02 := Lasts.ext d0 X2
      refine ⟨.ref st, rfl, one, rfl, st, c, r, tx, one, d1, M, d1.depth, wt d1, L, rfl, D2, by omega, ho.lasts L02, ⟨f1.ok, Nat.le_refl _, Nat.le_refl _⟩, n1, hM, hM2, by have := f1.wt; omega, hL2, fun H3 Nw t3 nvs nds D3 ht3 X3 eN oN1 oN2 hall hl2 hgood => ?_⟩
      have L23 := Lasts.ext D2 X3
      have L03 := L02.trans L23
      have eP3 := L23.ls _ _ eP oP1 oP2
      have hw1 := f1.wt
      refine ⟨.ref Pa, rfl, Pa, ps, rfl, SqL.of eP3, for_it (walk_rev (K := K) (a := Pa) (xs := ps))
        (fun j σ Hx => ∃ (z4 z6 : Option V) (N1 : Addr) (mvs : List V) (mds : List PyData) (o1 : V) (dd : PyData), σ = [some (.ref st), some v, some (.ref Pa), some one, z4, some (.ref N1), z6] ∧ Same H3 Hx ∧ Hx N1 = some (.lst mvs) ∧ DqAll K st r Hx mvs mds ∧ mds.length ≤ 2 ∧
          Chain K st r H H3 v d (ps.take (ps.length - j)) o1 dd ∧ (∀ x ∈ mds, fit (M + 6) x ∧ x.depth ≤ dd.depth + 2 ∧ nar (L + 1) x) ∧ wtAll mds ≤ wt dd + 2 + (W + 1100))
        ⟨_, _, Nw, nvs, nds, one, d1, rfl, Same.refl _, eN, hall, hl2, by rw [Nat.sub_zero, List.take_length]; exact hch.tk L23.tk, fun x hx => ⟨(hgood x hx).1.ok, (hgood x hx).1.dp, nar_mono (by omega) (hgood x hx).2⟩, ?_⟩ (fun j σ Hx _ h => by obtain ⟨_, _, _, _, _, _, _, _, sx, _⟩ := h; exact SqL.of (sx _ _ eP3)) ?_ ?_⟩
      · have h1 := wtAll_le (W := wt d1 + 500) (ds := nds) (fun x hx => (hgood x hx).1.wt)
        have h2 : nds.length * (wt d1 + 500 + 2) ≤ 2 * (wt d1 + 500 + 2) := Nat.mul_le_mul_right _ hl2
        omega
      · rintro j y σ Hx Hx' hlt ⟨z4, z6, N1, mvs, mds, o1, dd, rfl, sx, eN1, hm, hml, hc1, hg1, hw2⟩ ⟨rfl, hv⟩
        have htake : ps.take (ps.length - j) = ps.take (ps.length - 1 - j) ++ [y] := by
          have e1 : ps.length - j = (ps.length - 1 - j) + 1 := by omega
          rw [e1]; exact take_snoc hv
        obtain ⟨qq, a, xs, ds, sn, rfl, hc2, hq, hT0, ha, hxs, hds⟩ := hc1.inv htake
        obtain ⟨f2, n2, hdl2⟩ := hc2.fit hf hnar
        obtain ⟨hp1, hp2, hp3⟩ := f2.parts
        have hwa := wtAll_at hds
        have hlx := DqAll.len ha
        have hlen := (nar_tup.mp n2).1
        have hdd := hf1_at f2 hds
        have hlm := DqAll.len hm
        have L0x := L03.trans (Lasts.of (st := st) (r := r) sx)
        have hTx := L0x.tk.sq hT0
        refine ⟨qq, _, rfl, (TupK.of sx).sq hq, rfl, .ref a, _, rfl, .int sn, _, rfl, rfl, ?_⟩
        refine ⟨.ref a, rfl, .int sn, rfl, sn, rfl, sl_any (K := K) (a := a) (xs := xs) (lo := none) (hi := some (sn : Int)) hTx (fun H5 b5 s5 hb5 => ?_)⟩
        rw [cut_to] at hb5
        refine ⟨.ref N1, rfl, N1, mvs, rfl, .inl ⟨SqL.of (s5 _ _ eN1), fun R nR => ?_⟩⟩
        refine cat_any (xs := xs.take sn) (ys := mvs) ((TupK.new nR).sq hb5) (SqT.of upd_same) (by rw [List.length_take]; omega) (fun H6 b6 s6 hb6 => ?_)
        have s56 : Same H5 H6 := (sameNew nR).trans s6
        refine ⟨.ref a, rfl, .int sn, rfl, _, _, rfl, rfl, ((sn + 1 : Nat) : Int), by simp, ?_⟩
        dsimp only [tNoPart]
        refine sl_any (K := K) (a := a) (xs := xs) (lo := some ((sn + 1 : Nat) : Int)) (hi := none) (H := H6) ((TupK.of (s5.trans s56)).sq hTx) (fun H7 b7 s7 hb7 => ?_)
        rw [cut_from] at hb7
        refine cat_any ((TupK.of s7).sq hb6) hb7 (by simp; omega) (fun H8 b8 s8 hb8 => ⟨(show (1 : Nat) ≤ sizeLine by decide), fun N2 nN2 => ?_⟩)
        have sx8 := ((s5.trans s56).trans s7).trans s8
        have sx9 := sx8.trans (sameNew (o := .lst [.ref b8]) nN2)
        have haX := ha.lasts (L0x.trans (.of sx9))
        have hmX := hm.lasts (Lasts.of (st := st) (r := r) sx9)
        refine ⟨_, _, N2, [.ref b8], [.tuple (ds.take sn ++ mds ++ ds.drop (sn + 1))], .ref a, .tuple ds, rfl, sx.trans sx9, upd_same, .cons (.tup ((TupK.new nN2).sq hb8) ((DqAll.app (haX.take _) hmX).app (haX.drop _))) .nil, by simp, ?_, ?_, ?_⟩
        · rw [show ps.length - (j + 1) = ps.length - 1 - j by omega]; exact hc2
        · intro x hx
          rw [List.mem_singleton] at hx
          subst hx
          have hpart : ∀ y ∈ ds.take sn ++ mds ++ ds.drop (sn + 1), fit (M + 6) y ∧ y.depth + 1 ≤ (PyData.tuple ds).depth + 2 ∧ nar (L + 1) y := by
            intro y hy
            rw [List.append_assoc, List.mem_append, List.mem_append] at hy
            have old : ∀ y ∈ ds, fit (M + 6) y ∧ y.depth + 1 ≤ (PyData.tuple ds).depth + 2 ∧ nar (L + 1) y := fun y hy => ⟨fit_mono (by omega) (hp1 y hy).1, by have := (f2.at hy).2.1; omega, nar_mono (by omega) ((nar_tup.mp n2).2 y hy)⟩
            rcases hy with h | h | h
            · exact old y (List.mem_of_mem_take h)
            · have := hg1 y h
              exact ⟨this.1, by omega, this.2.2⟩
            · exact old y (List.mem_of_mem_drop h)
          have hF : Fit (M + 6) ((PyData.tuple ds).depth + 2) (wtAll (ds.take sn ++ mds ++ ds.drop (sn + 1)) + 3) (.tuple (ds.take sn ++ mds ++ ds.drop (sn + 1))) :=
            Fit.tup (fun y hy => ⟨(hpart y hy).1, (hpart y hy).2.1⟩) (by omega) (Nat.le_refl _)
          refine ⟨hF.ok, hF.dp, nar_tup.mpr ⟨?_, fun y hy => (hpart y hy).2.2⟩⟩
          have hsl : sn < ds.length := (List.getElem?_eq_some_iff.mp hds).1
          simp
          omega
        · simp only [wtAll, wt, wtAll_app]
          omega
      · rintro σ Hx ⟨z4, z6, N1, mvs, mds, o1, dd, rfl, sx, eN1, hm, hml, hc1, hg1, hw2⟩
        rw [Nat.sub_self, List.take_zero] at hc1
        have hdd : dd = d := by
          generalize hnil : ([] : List V) = l0 at hc1
          cases hc1 with
          | nil => rfl
          | snoc => simp at hnil
        subst hdd
        have hlm := DqAll.len hm
        refine ⟨.ref N1, rfl, (show (1 : Nat) ≤ sizeLine by decide), fun Z nZ => ⟨N1, Z, mvs, _, rfl, rfl, upNew nZ eN1, upd_same, ?_, fun Y nY => ?_⟩⟩
        · have := small (n := 10) (by decide)
          simp; omega
        have sY := (sameNew (o := .lst [.non]) nZ).trans (sameNew (o := .lst (mvs ++ [.non])) nY)
        have D9 := D3.same (sx.trans sY)
        have X9 : Ext st r H _ := (X2.trans X3).trans (Ext.of (sx.trans sY))
        have hwd := hf.wt
        have hlps : ps.length ≤ 30 := by omega
        cases hm with
        | nil =>
          exact ⟨Y, _, _, .non, rfl, rfl, SqL.of upd_same, rfl, q _ _ .none t3 D9 (by omega) X9 .non ⟨by simp [fit], by simp [PyData.depth], by simp only [Pv.wt]; omega⟩ (by simp [nar])⟩
        | @cons x _ dx _ hx ht =>
          have hg := hg1 dx (by simp)
          refine ⟨Y, _, _, x, rfl, rfl, SqL.of upd_same, atI_nat (j := 0) rfl, q _ _ dx t3 D9 (by omega) X9 (hx.lasts (.of sY)) ⟨hg.1, by omega, ?_⟩ hg.2.2⟩
          simp only [wtAll] at hw2
          omega
end
end Pv

namespace Pv
open PySem PySem.Spec PyProof.Rows L2
abbrev sIG : Stmt := topS 12
theorem scIG : FnScope ["instance", "value"] ["instance", "value"] (defScope sIG) := ⟨rfl, rfl, rfl, by decide +kernel, rfl, by decide +kernel, by decide +kernel⟩
abbrev sWI : Stmt := topS 14
theorem scWI : FnScope ["items", "at", "item"] ["items", "at", "item"] (defScope sWI) := ⟨rfl, rfl, rfl, by decide +kernel, rfl, by decide +kernel, by decide +kernel⟩
abbrev sGr : Stmt := topS 15
theorem scGr : FnScope ["groups", "posts", "count"] ["groups"] (defScope sGr) := ⟨rfl, rfl, rfl, by decide +kernel, rfl, by decide +kernel, by decide +kernel⟩
abbrev sSg : Stmt := topS 16
theorem scSg : FnScope ["instance", "group", "count", "posts", "total"] ["instance", "group", "count"] (defScope sSg) := ⟨rfl, rfl, rfl, by decide +kernel, rfl, by decide +kernel, by decide +kernel⟩
abbrev sMg : Stmt := topS 17
theorem scMg : FnScope ["instance", "counts", "posts", "count", "groups"] ["instance"] (defScope sMg) := ⟨rfl, rfl, rfl, by decide +kernel, rfl, by decide +kernel, by decide +kernel⟩
abbrev siBN : Stmt := inCls (topS 7) 0
theorem sciBN : FnScope ["self", "value"] ["self", "value"] (defScope siBN) := ⟨rfl, rfl, rfl, by decide +kernel, rfl, by decide +kernel, by decide +kernel⟩
theorem ok_iBN {P : Program} {w : World} {K : PySem.W.Frag} {mg : Str → Option Value} {base : Heap} {f C : Addr} {fd : FuncData} (F : Fun K "__init__" "BadNumber.__init__" siBN f fd) (X : XF K C f "value") : FnOk P w K mg base CX0 1 f fd ["self", "value"] (spI1 C "value") := by
  refine F.ok sciBN (fun vs H Q E h => ?_) (fun cdv A outer s H vs Q E hr h => ?_)
  · obtain ⟨a, v, rfl, _⟩ := h; rfl
  · obtain ⟨a, v, rfl, hH, q⟩ := h
    refine ⟨_, pss_one (ps_ost (pv 0) (pv 1)), ?_⟩
    exact ⟨v, rfl, .ref a, rfl, a, C, rfl, X.T, X.no, .inl ⟨hH, fun dx nd ne => q dx nd ne⟩⟩
abbrev siNG : Stmt := inCls (topS 10) 0
theorem sciNG : FnScope ["self", "value"] ["self", "value"] (defScope siNG) := ⟨rfl, rfl, rfl, by decide +kernel, rfl, by decide +kernel, by decide +kernel⟩
theorem ok_iNG {P : Program} {w : World} {K : PySem.W.Frag} {mg : Str → Option Value} {base : Heap} {f C : Addr} {fd : FuncData} (F : Fun K "__init__" "NoGroup.__init__" siNG f fd) (X : XL K C f "value") : FnOk P w K mg base CX0 1 f fd ["self", "value"] (spI1 C "value") := by
  refine F.ok sciNG (fun vs H Q E h => ?_) (fun cdv A outer s H vs Q E hr h => ?_)
  · obtain ⟨a, v, rfl, _⟩ := h; rfl
  · obtain ⟨a, v, rfl, hH, q⟩ := h
    refine ⟨_, pss_one (ps_ostL (pv 0) (pv 1)), ?_⟩
    exact ⟨v, rfl, .ref a, rfl, a, C, rfl, X.T, X.no, hH, fun dx nd ne => q dx nd ne⟩
abbrev siTM : Stmt := inCls (topS 9) 0
theorem sciTM : FnScope ["self", "limit"] ["self", "limit"] (defScope siTM) := ⟨rfl, rfl, rfl, by decide +kernel, rfl, by decide +kernel, by decide +kernel⟩
theorem ok_iTM {P : Program} {w : World} {K : PySem.W.Frag} {mg : Str → Option Value} {base : Heap} {f C : Addr} {fd : FuncData} (F : Fun K "__init__" "TooMany.__init__" siTM f fd) (X : XF K C f "limit") : FnOk P w K mg base CX0 1 f fd ["self", "limit"] (spI1 C "limit") := by
  refine F.ok sciTM (fun vs H Q E h => ?_) (fun cdv A outer s H vs Q E hr h => ?_)
  · obtain ⟨a, v, rfl, _⟩ := h; rfl
  · obtain ⟨a, v, rfl, hH, q⟩ := h
    refine ⟨_, pss_one (ps_ost (pv 0) (pv 1)), ?_⟩
    exact ⟨v, rfl, .ref a, rfl, a, C, rfl, X.T, X.no, .inl ⟨hH, fun dx nd ne => q dx nd ne⟩⟩
theorem within_int {a b : Int} {d : PyData} (h : withinD a b d = true) : ∃ i, d = .int i ∧ a ≤ i ∧ i ≤ b := by
  cases d with
  | int i => exact ⟨i, rfl, of_decide_eq_true h⟩
  | _ => simp [withinD] at h
def idx : PyData → Nat
  | .int a => a.toNat
  | _ => 0
def numD : PyData → Int
  | .int a => a
  | _ => 0
def gat (gs : List Gp) (i : Nat) : Gp := gs.getD i ([], 0)
theorem gat_at {gs : List Gp} {i : Nat} {g : Gp} (h : gs[i]? = some g) : gat gs i = g := by unfold gat; rw [List.getD_eq_getElem?_getD, h]; rfl
def okG1 (gs : List Gp) (d : PyData) : Bool := withinD 0 ((gs.length : Int) - 1) d
def okG2 (gs : List Gp) (d1 d2 : PyData) : Bool := withinD 1 ((gat gs (idx d1)).2 - 1) d2
def splitG (gs : List Gp) (i : Nat) (c : Int) : List Gp := gs.set i ((gat gs i).1, c) ++ [((gat gs i).1, (gat gs i).2 - c)]
def toldS (cs : List Int) (gs : List Gp) (d1 d2 : PyData) : PyData :=
  if okG1 gs d1 = false then .list [.str "group", .str d1.shown, .bool true]
  else if okG2 gs d1 d2 = false then .list [.str "number", .str d2.shown, .bool true]
  else if gs.length = 10 then .list [.str "many", .int 10, .bool true]
  else .list [.str "returned", dInst cs (splitG gs (idx d1) (numD d2))]
/-! merging -/
def addG (acc : List Gp) (g : Gp) : List Gp := if g.1 ∈ acc.map (·.1) then acc.map (fun h => if h.1 = g.1 then (h.1, h.2 + g.2) else h) else acc ++ [g]
def mergeG (gs : List Gp) : List Gp := gs.foldl addG []
def dedS (acc : List (List Int)) (w : List Int) : List (List Int) := if w ∈ acc then acc else acc ++ [w]
def ded (ws : List (List Int)) : List (List Int) := ws.foldl dedS []
def sumW (gs : List Gp) (w : List Int) : Int := ((gs.filter (fun g => decide (g.1 = w))).map (·.2)).sum
theorem mergeG_snoc (gs : List Gp) (g : Gp) : mergeG (gs ++ [g]) = addG (mergeG gs) g := by simp [mergeG, List.foldl_append]
theorem ded_snoc (ws : List (List Int)) (w : List Int) : ded (ws ++ [w]) = dedS (ded ws) w := by simp [ded, List.foldl_append]
theorem sumW_app (as bs : List Gp) (w : List Int) : sumW (as ++ bs) w = sumW as w + sumW bs w := by simp [sumW, List.filter_append, List.sum_append]
theorem sumW_one (g : Gp) (w : List Int) : sumW [g] w = if g.1 = w then g.2 else 0 := by
  by_cases e : g.1 = w
  · simp [sumW, e]
  · simp [sumW, e]
theorem snoc_ind {α : Type} {Pr : List α → Prop} (h0 : Pr []) (h1 : ∀ l a, Pr l → Pr (l ++ [a])) (l : List α) : Pr l := by
  have : ∀ l : List α, Pr l.reverse := by
    intro l
    induction l with
    | nil => exact h0
    | cons a l ih => rw [List.reverse_cons]; exact h1 _ _ ih
  have h := this l.reverse
  rwa [List.reverse_reverse] at h
theorem ded_mem (ws : List (List Int)) : ∀ w, w ∈ ded ws ↔ w ∈ ws := by
  refine snoc_ind (Pr := fun ws => ∀ w, w ∈ ded ws ↔ w ∈ ws) (fun w => by simp [ded]) (fun ws a ih w => ?_) ws
  rw [ded_snoc, dedS]
  split
  · rename_i h
    rw [ih] at h
    rw [ih, List.mem_append, List.mem_singleton]
    exact ⟨.inl, fun z => z.elim id (fun e => e ▸ h)⟩
  · rw [List.mem_append, List.mem_append, ih]
theorem ded_nodup (ws : List (List Int)) : (ded ws).Nodup := by
  refine snoc_ind (Pr := fun ws => (ded ws).Nodup) (by simp [ded]) (fun ws a ih => ?_) ws
  rw [ded_snoc, dedS]
  split
  · exact ih
  · rename_i h
    exact List.nodup_append.mpr ⟨ih, by simp, fun x hx y hy e => h (by rw [List.mem_singleton.mp hy] at e; exact e ▸ hx)⟩
theorem sumW_none {gs : List Gp} {w : List Int} (h : w ∉ gs.map (·.1)) : sumW gs w = 0 := by
  have : gs.filter (fun g => decide (g.1 = w)) = [] := by
    rw [List.filter_eq_nil_iff]
    intro g hg e
    exact h (List.mem_map.mpr ⟨g, hg, of_decide_eq_true e⟩)
  simp [sumW, this]
theorem merge_eq (gs : List Gp) : mergeG gs = (ded (gs.map (·.1))).map (fun w => (w, sumW gs w)) := by
  refine snoc_ind (Pr := fun gs => mergeG gs = (ded (gs.map (·.1))).map (fun w => (w, sumW gs w))) (by simp [mergeG, ded]) (fun gs g ih => ?_) gs
  rw [mergeG_snoc, List.map_append, List.map_singleton, ded_snoc, addG, dedS]
  have hmem : g.1 ∈ (mergeG gs).map (·.1) ↔ g.1 ∈ ded (gs.map (·.1)) := by rw [ih, List.map_map]; simp [Function.comp_def]
  by_cases hin : g.1 ∈ ded (gs.map (·.1))
  · rw [if_pos (hmem.mpr hin), if_pos hin, ih, List.map_map]
    refine List.map_congr_left fun w _ => ?_
    simp only [Function.comp]
    rw [sumW_app, sumW_one]
    by_cases e : w = g.1
    · rw [if_pos e, if_pos e.symm]
    · rw [if_neg e, if_neg (fun z => e z.symm), Int.add_zero]
  · rw [if_neg (fun z => hin (hmem.mp z)), if_neg hin, List.map_append, ih, List.map_singleton]
    have h0 : sumW gs g.1 = 0 := sumW_none (fun z => hin ((ded_mem _ _).mpr z))
    congr 1
    · refine List.map_congr_left fun w hw => ?_
      rw [sumW_app, sumW_one, if_neg (fun (z : g.1 = w) => hin (z ▸ hw)), Int.add_zero]
    · rw [sumW_app, sumW_one, if_pos rfl, h0, Int.zero_add]
theorem mergeG_fst (gs : List Gp) : (mergeG gs).map (·.1) = ded (gs.map (·.1)) := by
  rw [merge_eq, List.map_map]
  exact List.map_id _
theorem split_merge {gs : List Gp} {i : Nat} {c : Int} (h : i < gs.length) : mergeG (splitG gs i c) = mergeG gs := by
  have hg : gs[i]? = some gs[i] := List.getElem?_eq_getElem h
  have e0 : splitG gs i c = gs.set i (gs[i].1, c) ++ [(gs[i].1, gs[i].2 - c)] := by unfold splitG; rw [gat_at hg]
  have hf : (gs.set i (gs[i].1, c)).map (·.1) = gs.map (·.1) := by
    rw [List.map_set]
    refine List.ext_getElem? fun j => ?_
    rw [List.getElem?_set]
    split
    · rename_i e; subst e
      rw [List.getElem?_map, hg]
      simp [h]
    · rfl
  have hd : ded ((splitG gs i c).map (·.1)) = ded (gs.map (·.1)) := by
    rw [e0, List.map_append, hf, List.map_singleton, ded_snoc, dedS, if_pos]
    rw [ded_mem]
    exact List.mem_map.mpr ⟨gs[i], List.getElem_mem h, rfl⟩
  have hs : ∀ w, sumW (splitG gs i c) w = sumW gs w := by
    intro w
    have e1 : gs.set i (gs[i].1, c) = gs.take i ++ ([(gs[i].1, c)] ++ gs.drop (i + 1)) := by rw [List.set_eq_take_append_cons_drop, if_pos h]; rfl
    have e2 : gs = gs.take i ++ ([gs[i]] ++ gs.drop (i + 1)) := by
      have := List.set_eq_take_append_cons_drop (l := gs) (i := i) (a := gs[i])
      rw [if_pos h, List.set_getElem_self] at this
      exact this
    have e3 : sumW gs w = sumW (gs.take i) w + ((if gs[i].1 = w then gs[i].2 else 0) + sumW (gs.drop (i + 1)) w) := by
      conv => lhs; rw [e2]
      rw [sumW_app, sumW_app, sumW_one]
    rw [e0, e1, e3, sumW_app, sumW_app, sumW_app, sumW_one, sumW_one]
    split <;> omega
  rw [merge_eq, merge_eq gs, hd]
  exact List.map_congr_left fun w _ => by rw [hs]
def OverG (gs : List Gp) : Prop := ∃ g ∈ mergeG gs, g.2 > 10 ^ 12
theorem over_max {gs : List Gp} {m : Int} (h1 : m ∈ (mergeG gs).map (·.2)) (h2 : ∀ g ∈ mergeG gs, g.2 ≤ m) : OverG gs ↔ m > 10 ^ 12 := by
  constructor
  · rintro ⟨g, hg, h⟩
    have := h2 g hg
    omega
  · intro h
    obtain ⟨g, hg, rfl⟩ := List.mem_map.mp h1
    exact ⟨g, hg, h⟩
instance (gs : List Gp) : Decidable (OverG gs) := by unfold OverG; infer_instance
def mergedD (cs : List Int) (gs : List Gp) : PyData := if OverG gs then .str "too great" else dInst cs (mergeG gs)
theorem merge_pos {gs : List Gp} (h : 1 ≤ gs.length) : 0 < (mergeG gs).length := by
  have h1 : (mergeG gs).length = (ded (gs.map (·.1))).length := by rw [merge_eq, List.length_map]
  rw [h1]
  cases gs with
  | nil => simp at h
  | cons g gs =>
    have : g.1 ∈ ded ((g :: gs).map (·.1)) := (ded_mem _ _).mpr (by simp)
    exact List.length_pos_of_mem this
theorem ded_len (ws : List (List Int)) : (ded ws).length ≤ ws.length := by
  refine snoc_ind (Pr := fun ws => (ded ws).length ≤ ws.length) (by simp [ded]) (fun ws a ih => ?_) ws
  rw [ded_snoc, dedS]
  split <;> simp <;> omega
theorem merge_len (gs : List Gp) : (mergeG gs).length ≤ gs.length := by
  have := ded_len (gs.map (·.1))
  rw [merge_eq, List.length_map]
  simpa using this
/-! the dict's own view -/
def kG (g : Gp) : List L2.Key × V := (g.1.map Sum.inl, .int g.2)
theorem kG_tup (ns : List Int) : (ns.map (Sum.inl : Int → L2.Key)).map kV = ns.map V.int := by rw [List.map_map]; rfl
theorem kG_inj {a b : List Int} : a.map (Sum.inl : Int → L2.Key) = b.map Sum.inl ↔ a = b := by
  constructor
  · intro h
    exact List.map_inj_right (f := (Sum.inl : Int → L2.Key)) (fun x y e => Sum.inl.inj e) |>.mp h
  · intro h; rw [h]
theorem put_add {acc : List Gp} (hn : (acc.map (·.1)).Nodup) (g : Gp) :
    putK (acc.map kG) (g.1.map Sum.inl) (.int ((match valV (acc.map kG) (g.1.map Sum.inl) with | some (.int x) => x | _ => 0) + g.2)) = (addG acc g).map kG ∧ ((valV (acc.map kG) (g.1.map Sum.inl)).getD (.int 0) = .int (match valV (acc.map kG) (g.1.map Sum.inl) with | some (.int x) => x | _ => 0)) := by
  have hv : ∀ acc : List Gp, (acc.map (·.1)).Nodup → (∀ h ∈ acc, h.1 = g.1 → valV (acc.map kG) (g.1.map Sum.inl) = some (.int h.2)) ∧ ((∀ h ∈ acc, h.1 ≠ g.1) → valV (acc.map kG) (g.1.map Sum.inl) = none) := by
    intro acc
    induction acc with
    | nil => intro _; exact ⟨fun h hh => by simp at hh, fun _ => rfl⟩
    | cons a acc ih =>
      intro hn
      rw [List.map_cons, List.nodup_cons] at hn
      obtain ⟨i1, i2⟩ := ih hn.2
      rw [List.map_cons]
      by_cases e : a.1 = g.1
      · have ek : (kG a).1 = g.1.map Sum.inl := by unfold kG; rw [e]
        rw [valV_pos ek]
        refine ⟨fun h hh he => ?_, fun hall => absurd e (hall a (by simp))⟩
        rcases List.mem_cons.mp hh with rfl | hh
        · rfl
        · exact absurd (List.mem_map.mpr ⟨h, hh, he.trans e.symm⟩) hn.1
      · have ek : ¬ (kG a).1 = g.1.map Sum.inl := fun z => e (kG_inj.mp z)
        rw [valV_neg ek]
        refine ⟨fun h hh he => ?_, fun hall => i2 (fun h hh => hall h (by simp [hh]))⟩
        rcases List.mem_cons.mp hh with rfl | hh
        · exact absurd he e
        · exact i1 h hh he
  obtain ⟨h1, h2⟩ := hv acc hn
  by_cases hin : g.1 ∈ acc.map (·.1)
  · obtain ⟨h, hh, he⟩ := List.mem_map.mp hin
    have hv' := h1 h hh he
    rw [hv']
    refine ⟨?_, rfl⟩
    have hany : ((acc.map kG).any fun kv => decide (kv.1 = g.1.map Sum.inl)) = true := by
      rw [List.any_eq_true]
      exact ⟨kG h, List.mem_map_of_mem hh, decide_eq_true (by unfold kG; rw [he])⟩
    unfold putK
    rw [if_pos hany]
    unfold addG
    rw [if_pos hin, List.map_map, List.map_map]
    refine List.map_congr_left fun a ha => ?_
    simp only [Function.comp]
    by_cases e : a.1 = g.1
    · have ea : a = h := by
        obtain ⟨j, hj, ej⟩ := List.mem_iff_getElem.mp ha
        obtain ⟨k, hk, ek⟩ := List.mem_iff_getElem.mp hh
        have : j = k := by
          have hjm : j < (acc.map (·.1)).length := by rw [List.length_map]; exact hj
          have hkm : k < (acc.map (·.1)).length := by rw [List.length_map]; exact hk
          refine (List.getElem?_inj hjm hn).mp ?_
          rw [List.getElem?_map, List.getElem?_map, List.getElem?_eq_getElem hj, List.getElem?_eq_getElem hk, ej, ek]
          simp [e, he]
        subst this
        rw [← ej, ← ek]
      subst ea
      have ek : (kG a).1 = g.1.map Sum.inl := by unfold kG; rw [e]
      rw [if_pos ek, if_pos e]
      rfl
    · have ek : ¬ (kG a).1 = g.1.map Sum.inl := fun z => e (kG_inj.mp z)
      rw [if_neg ek, if_neg e]
  · have hno : ∀ h ∈ acc, h.1 ≠ g.1 := fun h hh e => hin (List.mem_map.mpr ⟨h, hh, e⟩)
    rw [h2 hno]
    refine ⟨?_, rfl⟩
    have hany : ¬ ((acc.map kG).any fun kv => decide (kv.1 = g.1.map Sum.inl)) = true := by
      rw [List.any_eq_true]
      rintro ⟨kv, hkv, e⟩
      obtain ⟨a, ha, rfl⟩ := List.mem_map.mp hkv
      exact hno a ha (kG_inj.mp (of_decide_eq_true e))
    unfold putK
    rw [if_neg hany]
    unfold addG
    rw [if_neg hin, List.map_append, Int.zero_add]
    rfl
def rReprA (K : PySem.W.Frag) : RC := fun xs H Q => ∃ v d st r, xs = [v] ∧ Dq K st r H v d ∧ d.showable = true ∧ d.depth ≤ 60 ∧ d.shown.length ≤ sizeLine ∧ Q (.str d.shown) H
theorem call_reprR {X : Cx} (hg : X.A.guards = some []) (hu : X.A.units + 70 < cLine) : CallR X (.builtin "repr") (rReprA X.K) := call_reprA hg hu
end Pv

namespace Pv
open PySem PySem.Spec PyProof.Rows L2
theorem grp_at {K : PySem.W.Frag} {H : Hp} {xs : List V} {gs : List Gp} (h : DpAll K H xs (gs.map dGrp)) {i : Nat} {g : Gp} (hg : gs[i]? = some g) : ∃ a p, xs[i]? = some (.ref a) ∧ SqT K H a [.ref p, .int g.2] ∧ SqT K H p (g.1.map V.int) := by
  have hl := DpAll.len h
  rw [List.length_map] at hl
  have hi : i < xs.length := by rw [hl]; exact (List.getElem?_eq_some_iff.mp hg).1
  obtain ⟨d, hd, hx⟩ := DpAll.at h (List.getElem?_eq_getElem hi)
  rw [List.getElem?_map, hg] at hd
  cases hd
  obtain ⟨a, p, e, h1, h2⟩ := grp_ref hx
  exact ⟨a, p, by rw [List.getElem?_eq_getElem hi, e], h1, h2⟩
theorem DpAll.set {K : PySem.W.Frag} {H : Hp} : ∀ {vs : List V} {ds : List PyData} {v : V} {d : PyData} (i : Nat), DpAll K H vs ds → Dp K H v d → DpAll K H (vs.set i v) (ds.set i d)
  | _, _, _, _, _, .nil, _ => .nil
  | _, _, _, _, 0, .cons _ t, h' => .cons h' t
  | _, _, _, _, i + 1, .cons h t, h' => .cons h (DpAll.set i t h')
theorem DpAll.app {K : PySem.W.Frag} {H : Hp} : ∀ {vs ws : List V} {ds es : List PyData}, DpAll K H vs ds → DpAll K H ws es → DpAll K H (vs ++ ws) (ds ++ es)
  | _, _, _, _, .nil, h => h
  | _, _, _, _, .cons h1 t, h => .cons h1 (DpAll.app t h)
theorem pt_of {H : Hp} : ∀ {as : List Addr} {gs : List Gp}, as.length = gs.length → (∀ (j : Nat) (b : Addr) (g : Gp), as[j]? = some b → gs[j]? = some g → ∃ q, H b = some (.tup [.ref q, .int g.2]) ∧ H q = some (.tup (g.1.map V.int))) → PtAll H (as.map V.ref) gs
  | [], [], _, _ => .nil
  | [], _ :: _, h, _ => by simp at h
  | _ :: _, [], h, _ => by simp at h
  | a :: as, g :: gs, h, f => by
    obtain ⟨q, h1, h2⟩ := f 0 a g rfl rfl
    exact .cons h1 h2 (pt_of (by simpa using h) (fun j b g' hb hg => f (j + 1) b g' (by simpa using hb) (by simpa using hg)))
section
variable {P : Program} {w : World} {K : PySem.W.Frag} {mg : Str → Option Value} {base : Heap}
def spIG (K : PySem.W.Frag) : Sp := fun vs H Q _ => ∃ (st r i : Addr) (v : V) (cs : List Int) (gs : List Gp) (d : PyData), vs = [.ref i, v] ∧ Dp K H (.ref i) (dInst cs gs) ∧ Dq K st r H v d ∧ Q (.bl (okG1 gs d)) H
theorem ok_IG {f fWi : Addr} {fd fdWi : FuncData} (F : Fun K "is_group" "is_group" sIG f fd)
    (FWi : Fun K "is_within" "is_within" sWithin fWi fdWi) (bWi : Binds K fdWi ["value", "least", "most"] []) (gWi : mg "is_within" = some (.ref fWi)) (GWi : FnOk P w K mg base CX0 2 fWi fdWi ["value", "least", "most"] (spWithin K))
    (m_len : mg "len" = none) :
    FnOk P w K mg base CX0 3 f fd ["instance", "value"] (spIG K) := by
  refine F.ok scIG (fun vs H Q E h => ?_) (fun cdv A outer s H vs Q E hr h => ?_)
  · obtain ⟨st, r, i, v, cs, gs, d, rfl, _⟩ := h; rfl
  · obtain ⟨st, r, i, v, cs, gs, d, rfl, hI, hd, q⟩ := h
    refine ⟨_, pss_one (ps_ret (pe_call GWi (hr.mono (by omega)) (by rfl) gWi FWi.kp bWi .nil pass0 (pa_cons (pv 1) (pa_cons (pe_int) (pa_cons (pe_op op_sub (pe_callB call_lenQ (by rfl) m_len PySem.boot_len (pa_cons (pe_ix ix_tup (pv 0) (pe_int) (fun _ _ => rfl)) pa_nil)) (pe_int)) pa_nil))))), ?_⟩
    obtain ⟨_, ca, ga, xs, e, hi, hc, hgt, hgs⟩ := inst_open hI
    cases e
    have lx := DpAll.len hgs
    rw [List.length_map] at lx
    refine ⟨v, rfl, .ref i, rfl, i, _, 1, .ref ga, rfl, rfl, hi, atI_nat (j := 1) rfl, ga, _, rfl, .inr hgt, _, _, rfl, rfl, st, r, v, d, _, _, rfl, hd, ?_⟩
    rw [lx]
    exact q
def spWI (K : PySem.W.Frag) : Sp := fun vs H Q _ => ∃ (a : Addr) (xs : List V) (n : Nat) (v : V), vs = [.ref a, .int n, v] ∧ SqT K H a xs ∧ n < xs.length ∧ xs.length ≤ 1000 ∧ ∀ H' p, Same H H' → SqT K H' p (xs.set n v) → Q (.ref p) H'
theorem ok_WI {f : Addr} {fd : FuncData} (F : Fun K "with_item" "with_item" sWI f fd)
     :
    FnOk P w K mg base CX0 1 f fd ["items", "at", "item"] (spWI K) := by
  refine F.ok scWI (fun vs H Q E h => ?_) (fun cdv A outer s H vs Q E hr h => ?_)
  · obtain ⟨a, xs, n, v, rfl, _⟩ := h; rfl
  · obtain ⟨a, xs, n, v, rfl, hA, hn, hx, q⟩ := h
    refine ⟨_, pss_one (ps_ret (pe_op op_catA (pe_op op_catA (pe_slice sl_tupA (pv 0) po_none (po_some (pv 1))) (pe_tup (pa_cons (pv 2) pa_nil))) (pe_slice sl_tupA (pv 0) (po_some (pe_op op_add (pv 1) (pe_int))) po_none))), ?_⟩
    refine ⟨.ref a, rfl, .int (n : Nat), rfl, _, rfl, take_eq hA n (fun H1 b s1 hb => ⟨v, rfl, (show (1 : Nat) ≤ sizeLine by decide), fun T nT => ?_⟩)⟩
    have sT := sameNew (o := .tup [v]) nT
    refine cat_eq ((TupK.of sT).sq hb) (SqT.of upd_same) (Nat.le_of_lt (small (by rw [List.length_take]; simp; omega))) (fun H2 p2 s2 h2 => ⟨.ref a, rfl, .int (n : Nat), rfl, _, _, rfl, rfl, _, rfl, ?_⟩)
    have s02 := (s1.trans sT).trans s2
    dsimp only [tNoPart]
    rw [show ((n : Int) + 1) = ((n + 1 : Nat) : Int) by omega]
    refine drop_eq ((TupK.of s02).sq hA) (n + 1) (fun H3 p3 s3 h3 => ?_)
    refine cat_eq ((TupK.of s3).sq h2) h3 (Nat.le_of_lt (small (by simp [List.length_take, List.length_drop]; omega))) (fun H4 p4 s4 h4 => ?_)
    refine q H4 p4 ((s02.trans s3).trans s4) ?_
    have e : xs.set n v = (xs.take n ++ [v]) ++ xs.drop (n + 1) := by rw [List.set_eq_take_append_cons_drop, if_pos hn]; simp
    rw [e]
    exact h4
def spGr (K : PySem.W.Frag) : Sp := fun vs H Q _ => ∃ (a : Addr) (xs : List V) (gs : List Gp), vs = [.ref a] ∧ SqT K H a xs ∧ DpAll K H xs (gs.map dGrp) ∧ 0 < gs.length ∧ gs.length ≤ 900 ∧ ∀ H' m, Same H H' → m ∈ gs.map (·.2) → (∀ g ∈ gs, g.2 ≤ m) → Q (.int m) H'
theorem ok_Gr {f : Addr} {fd : FuncData} (F : Fun K "greatest_count" "greatest_count" sGr f fd)
    (m_max : mg "max" = none) :
    FnOk P w K mg base CX0 1 f fd ["groups"] (spGr K) := by
  refine F.ok scGr (fun vs H Q E h => ?_) (fun cdv A outer s H vs Q E hr h => ?_)
  · obtain ⟨a, xs, gs, rfl, _⟩ := h; rfl
  · obtain ⟨a, xs, gs, rfl, hA, hgs, hg0, hg9, q⟩ := h
    refine ⟨_, pss_one (ps_ret (pe_callB (cr_max rfl) (by rfl) m_max (by decide +kernel) (pa_cons (pe_lc (own := [("posts", 1), ("count", 2)]) (g := gTup K 2 (gCons (gName 1) (gCons (gName 2) gNil))) (tt := tYes) (te := tVar 2) rfl scGr.nd (pi_tup (pv 0)) (blkOk_by (N := ["groups", "posts", "count"]) (sc := defScope sGr) (by decide +kernel)) (fun _ _ _ _ _ => pg_tup rfl (pgs_cons (pg_name (i := 1) scGr.nd rfl (.inl rfl)) (pgs_cons (pg_name (i := 2) scGr.nd rfl (.inl rfl)) pgs_nil))) (fun _ _ _ _ _ => pts_nil) (fun _ _ _ _ _ => pv 2)) pa_nil))), ?_⟩
    have lx := DpAll.len hgs
    rw [List.length_map] at lx
    refine ⟨.ref a, rfl, a, rfl, ⟨_, hA⟩, fun D nD => lc_it (walk_tup (K := K) (a := a) (xs := xs))
      (fun j H2 => Same H H2 ∧ H2 D = some (.lst (((gs.map (·.2)).take j).map V.int))) ⟨sameNew nD, upd_same⟩ (fun j H2 _ h => (TupK.of h.1).sq hA) ?_ ?_⟩
    · rintro j v H2 H3 hlt ⟨s2, e2⟩ ⟨rfl, hv⟩
      obtain ⟨d, hd, hvd⟩ := DpAll.at hgs hv
      rw [List.getElem?_map] at hd
      obtain ⟨g, hg, rfl⟩ := Option.map_eq_some_iff.mp hd
      obtain ⟨gA, pA, rfl, hG, hP⟩ := grp_ref ((TupK.of s2).dp _ _ (to_dGrp g) hvd)
      refine ⟨gA, _, rfl, hG, rfl, _, _, rfl, _, _, rfl, rfl, rfl, .int g.2, rfl, _, e2, ?_, samePut s2 nD, ?_⟩
      · rw [List.length_map, List.length_take]; exact small (by omega)
      · have hm : (gs.map (·.2))[j]? = some g.2 := by rw [List.getElem?_map, hg]; rfl
        rw [upd_same, take_snoc hm]; simp
    · rintro H2 ⟨s2, e2⟩
      rw [lx, List.take_of_length_le (by rw [List.length_map]; exact Nat.le_refl _)] at e2
      exact ⟨D, _, rfl, SqL.of e2, by rw [List.length_map]; exact hg0, fun m h1 h2 => q H2 m s2 h1 (fun g hg => h2 _ (List.mem_map_of_mem hg))⟩
def spSg (K : PySem.W.Frag) (c1 c2 c3 : Addr) : Sp := fun vs H Q E => ∃ (st r i : Addr) (v1 v2 : V) (cs : List Int) (gs : List Gp) (d1 d2 : PyData), vs = [.ref i, v1, v2] ∧ Dp K H (.ref i) (dInst cs gs) ∧ InsOk cs gs ∧ Dq K st r H v1 d1 ∧ Dq K st r H v2 d2 ∧
  ∀ H', Same H H' → (okG1 gs d1 = false → ∀ d, H' d = none → E (.ref c1) (some d) (upd H' d (.xd [("value", v1)]))) ∧
    (okG1 gs d1 = true → okG2 gs d1 d2 = false → ∀ d, H' d = none → E (.ref c2) (some d) (upd H' d (.xd [("value", v2)]))) ∧
    (okG1 gs d1 = true → okG2 gs d1 d2 = true → gs.length = 10 → ∀ d, H' d = none → E (.ref c3) (some d) (upd H' d (.xd [("limit", .int 10)]))) ∧
    (okG1 gs d1 = true → okG2 gs d1 d2 = true → gs.length ≠ 10 → ∀ p, Dp K H' (.ref p) (dInst cs (splitG gs (idx d1) (numD d2))) → Q (.ref p) H')
set_option maxHeartbeats 2000000 in
theorem ok_Sg {f fIG fWi fWI : Addr} {fd fdIG fdWi fdWI : FuncData} (F : Fun K "split_group" "split_group" sSg f fd)
    (FIG : Fun K "is_group" "is_group" sIG fIG fdIG) (bIG : Binds K fdIG ["instance", "value"] []) (gIG : mg "is_group" = some (.ref fIG)) (GIG : FnOk P w K mg base CX0 3 fIG fdIG ["instance", "value"] (spIG K))
    (FWi : Fun K "is_within" "is_within" sWithin fWi fdWi) (bWi : Binds K fdWi ["value", "least", "most"] []) (gWi : mg "is_within" = some (.ref fWi)) (GWi : FnOk P w K mg base CX0 2 fWi fdWi ["value", "least", "most"] (spWithin K))
    (FWI : Fun K "with_item" "with_item" sWI fWI fdWI) (bWI : Binds K fdWI ["items", "at", "item"] []) (gWI : mg "with_item" = some (.ref fWI)) (GWI : FnOk P w K mg base CX0 1 fWI fdWI ["items", "at", "item"] (spWI K))
    {cNG : Addr} {fiNG : Addr} {fdiNG : FuncData} (gNG : mg "NoGroup" = some (.ref cNG)) (XNG : XL K cNG fiNG "value") (GiNG : FnOk P w K mg base CX0 1 fiNG fdiNG ["self", "value"] (spI1 cNG "value")) (biNG : Binds K fdiNG ["self", "value"] [])
    {cBN : Addr} {fiBN : Addr} {fdiBN : FuncData} (gBN : mg "BadNumber" = some (.ref cBN)) (XBN : XF K cBN fiBN "value") (GiBN : FnOk P w K mg base CX0 1 fiBN fdiBN ["self", "value"] (spI1 cBN "value")) (biBN : Binds K fdiBN ["self", "value"] [])
    {cTM : Addr} {fiTM : Addr} {fdiTM : FuncData} (gTM : mg "TooMany" = some (.ref cTM)) (XTM : XF K cTM fiTM "limit") (GiTM : FnOk P w K mg base CX0 1 fiTM fdiTM ["self", "limit"] (spI1 cTM "limit")) (biTM : Binds K fdiTM ["self", "limit"] [])
    {uGROUPS : Value} (vGROUPS : mg "GROUPS" = some uGROUPS) (rGROUPS : RelV (.int 10) uGROUPS)
    (m_len : mg "len" = none) :
    FnOk P w K mg base (L2.CX P w) 4 f fd ["instance", "group", "count"] (spSg K cNG cBN cTM) := by
  refine F.okX scSg (fun vs H Q E h => ?_) (fun cdv A outer s H vs Q E hr h => ?_)
  · obtain ⟨st, r, i, v1, v2, cs, gs, d1, d2, rfl, _⟩ := h; rfl
  · obtain ⟨st, r, i, v1, v2, cs, gs, d1, d2, rfl, hI, ok, h1, h2, q⟩ := h
    refine ⟨_, pss_cons (ps_if (pt_not (pt_val (pe_call GIG (hr.mono (by omega)) (by rfl) gIG FIG.kp bIG .nil pass0 (pa_cons (pv 0) (pa_cons (pv 1) pa_nil)))))
        (pss_one (ps_raise rfl (takes_of rfl rfl rfl rfl) (pmk_le XNG.T XNG.iC XNG.tI GiNG (hr.mono (by omega)) biNG (by rfl) gNG (pa_cons (pv 1) pa_nil)))) pss_nil)
      (pss_cons (ps_asg (pe_ix ix_tup (pe_ix ix_tup (pv 0) (pe_int) (fun _ _ => rfl)) (pv 1) (fun _ _ => rfl)) (pg_tup rfl (pgs_cons (pg_name (i := 3) scSg.nd rfl (.inl rfl)) (pgs_cons (pg_name (i := 4) scSg.nd rfl (.inl rfl)) pgs_nil))))
      (pss_cons (ps_if (pt_not (pt_val (pe_call GWi (hr.mono (by omega)) (by rfl) gWi FWi.kp bWi .nil pass0 (pa_cons (pv 2) (pa_cons (pe_int) (pa_cons (pe_op op_sub (pv 4) (pe_int)) pa_nil))))))
        (pss_one (ps_raise rfl (takes_of rfl rfl rfl rfl) (pmk_oex XBN.T XBN.iC XBN.tI GiBN (hr.mono (by omega)) biBN .nil pass0 (by rfl) gBN (pa_cons (pv 2) pa_nil)))) pss_nil)
      (pss_cons (ps_if (pt_cmpR op_ge (pe_callB call_lenQ (by rfl) m_len PySem.boot_len (pa_cons (pe_ix ix_tup (pv 0) (pe_int) (fun _ _ => rfl)) pa_nil)) (pe_glob (by rfl) vGROUPS rGROUPS) (nomark _))
        (pss_one (ps_raise rfl (takes_of rfl rfl rfl rfl) (pmk_oex XTM.T XTM.iC XTM.tI GiTM (hr.mono (by omega)) biTM .nil pass0 (by rfl) gTM (pa_cons (pe_glob (by rfl) vGROUPS rGROUPS) pa_nil)))) pss_nil)
      (pss_one (ps_ret (pe_tup (pa_cons (pe_ix ix_tup (pv 0) (pe_int) (fun _ _ => rfl)) (pa_cons (pe_op op_catA (pe_call GWI (hr.mono (by omega)) (by rfl) gWI FWI.kp bWI .nil pass0 (pa_cons (pe_ix ix_tup (pv 0) (pe_int) (fun _ _ => rfl)) (pa_cons (pv 1) (pa_cons (pe_tup (pa_cons (pv 3) (pa_cons (pv 2) pa_nil))) pa_nil)))) (pe_tup (pa_cons (pe_tup (pa_cons (pv 3) (pa_cons (pe_op op_sub (pv 4) (pv 2)) pa_nil))) pa_nil))) pa_nil)))))))), ?_⟩
    obtain ⟨_, ca, ga, xs, e, hi, hc, hgt, hgs⟩ := inst_open hI
    cases e
    have lx := DpAll.len hgs
    rw [List.length_map] at lx
    have h10 := ok.g10
    refine ⟨.ref i, rfl, v1, rfl, st, r, i, v1, cs, gs, d1, rfl, hI, h1, ?_⟩
    cases hb : okG1 gs d1 with
    | false => exact ⟨_, rfl, iteT ⟨v1, rfl, mkO1 fun d nd => (q H (Same.refl _)).1 hb d nd⟩⟩
    | true =>
    refine ⟨_, rfl, iteF ?_⟩
    obtain ⟨a, rfl, ha0, ha1⟩ := within_int hb
    cases h1
    obtain ⟨n, rfl⟩ : ∃ n : Nat, a = n := ⟨a.toNat, by omega⟩
    have hn : n < gs.length := by omega
    obtain ⟨gA, pA, hx, hG, hP⟩ := grp_at hgs (List.getElem?_eq_getElem hn)
    have eg : gat gs n = gs[n] := gat_at (List.getElem?_eq_getElem hn)
    refine ⟨.ref i, rfl, i, _, 1, .ref ga, rfl, rfl, hi, atI_nat (j := 1) rfl, .int (n : Nat), rfl, ga, _, _, _, rfl, rfl, hgt, atI_nat hx, gA, _, rfl, hG, rfl, _, _, rfl, _, _, rfl, rfl, ?_⟩
    refine ⟨v2, rfl, .int gs[n].2, rfl, _, _, rfl, rfl, st, r, v2, d2, _, _, rfl, h2, ?_⟩
    have e2 : withinD 1 (gs[n].2 - 1) d2 = okG2 gs (.int (n : Nat)) d2 := by unfold okG2; rw [show idx (.int (n : Nat)) = n from rfl, eg]
    rw [e2]
    cases hb2 : okG2 gs (.int (n : Nat)) d2 with
    | false => exact ⟨_, rfl, iteT ⟨v2, rfl, mkO1 fun d nd => (q H (Same.refl _)).2.1 hb hb2 d nd⟩⟩
    | true =>
    refine ⟨_, rfl, iteF ?_⟩
    rw [← e2] at hb2
    obtain ⟨b, rfl, hb0, hb1⟩ := within_int hb2
    rw [e2] at hb2
    cases h2
    refine ⟨.ref i, rfl, i, _, 1, .ref ga, rfl, rfl, hi, atI_nat (j := 1) rfl, ga, _, rfl, .inr hgt, _, _, rfl, rfl, _, rfl, ite2 (fun hl => ?_) (fun hl => ?_)⟩
    · have hl : gs.length = 10 := by have := of_decide_eq_true hl; rw [lx] at this; omega
      exact mkO1 fun d nd => (q H (Same.refl _)).2.2.1 hb hb2 hl d nd
    have hl : gs.length ≠ 10 := fun z => hl (decide_eq_true (by rw [lx]; omega))
    refine ⟨.ref i, rfl, i, _, 0, .ref ca, rfl, rfl, hi, atI_nat (j := 0) rfl, .ref i, rfl, i, _, 1, .ref ga, rfl, rfl, hi, atI_nat (j := 1) rfl, .int (n : Nat), rfl, .ref pA, rfl, .int b, rfl, (show (2 : Nat) ≤ sizeLine by decide), fun T1 n1 => ?_⟩
    have s1 := sameNew (o := .tup [.ref pA, .int b]) n1
    refine ⟨ga, _, n, .ref T1, rfl, (TupK.of s1).sq hgt, by omega, by omega, fun H1 p1 s2 hp1 => ?_⟩
    refine ⟨.ref pA, rfl, .int gs[n].2, rfl, .int b, rfl, _, _, rfl, rfl, (show (2 : Nat) ≤ sizeLine by decide), fun T2 n2 => ⟨(show (1 : Nat) ≤ sizeLine by decide), fun T3 n3 => ?_⟩⟩
    have s3 := sameNew (o := .tup [.ref pA, .int (gs[n].2 - b)]) n2
    have s4 := sameNew (o := .tup [.ref T2]) n3
    refine cat_eq ((TupK.of (s3.trans s4)).sq hp1) (SqT.of upd_same) (Nat.le_of_lt (small (by simp; omega))) (fun H2 p2 s5 hp2 => ⟨(show (2 : Nat) ≤ sizeLine by decide), fun R nR => ?_⟩)
    have sR := sameNew (o := .tup [.ref ca, .ref p2]) nR
    have sB := ((s2.trans (s3.trans s4)).trans s5).trans sR
    have sA := s1.trans sB
    refine (q _ sA).2.2.2 hb hb2 hl R (.tup (SqT.of upd_same) (.cons (dI_sq ((TupK.of sA).sq hc)) (.cons (.tup ((TupK.of sR).sq hp2) ?_) .nil)))
    show DpAll K _ _ ((splitG gs n b).map dGrp)
    unfold splitG
    rw [eg, List.map_append, List.map_set]
    refine DpAll.app (DpAll.set n ((TupK.of sA).dpAll _ _ (to_grps _) hgs) (.tup ((TupK.of sB).sq (SqT.of upd_same)) (.cons (dI_sq ((TupK.of sA).sq hP)) (.cons (.int _) .nil)))) (.cons (.tup ((TupK.of ((s4.trans s5).trans sR)).sq (SqT.of upd_same)) (.cons (dI_sq ((TupK.of sA).sq hP)) (.cons (.int _) .nil))) .nil)
def spMg (K : PySem.W.Frag) (C : Addr) : Sp := fun vs H Q E => ∃ (i : Addr) (cs : List Int) (gs : List Gp), vs = [.ref i] ∧ InsT K H i cs gs ∧ InsOk cs gs ∧ ∀ H', Same H H' → (OverG gs → E (.ref C) none H') ∧ (¬ OverG gs → ∀ p, Dp K H' (.ref p) (dInst cs (mergeG gs)) → Q (.ref p) H')
set_option maxHeartbeats 2000000 in
theorem ok_Mg {f fGr : Addr} {fd fdGr : FuncData} (F : Fun K "merge_groups" "merge_groups" sMg f fd)
    (FGr : Fun K "greatest_count" "greatest_count" sGr fGr fdGr) (bGr : Binds K fdGr ["groups"] []) (gGr : mg "greatest_count" = some (.ref fGr)) (GGr : FnOk P w K mg base CX0 1 fGr fdGr ["groups"] (spGr K))
    {cTG : Addr} (gTG : mg "TooGreat" = some (.ref cTG)) (ITG : IsC K cTG) (xTG : PySem.W.excIn K cTG VEbm "ValueError.__new__" = true)
    {uBIG : Value} (vBIG : mg "BIG" = some uBIG) (rBIG : RelV (.int 1000000000000) uBIG)
    (m_tuple : mg "tuple" = none) :
    FnOk P w K mg base (L2.CX P w) 2 f fd ["instance"] (spMg K cTG) := by
  refine F.okX scMg (fun vs H Q E h => ?_) (fun cdv A outer s H vs Q E hr h => ?_)
  · obtain ⟨i, cs, gs, rfl, _⟩ := h; rfl
  · obtain ⟨i, cs, gs, rfl, hI, ok, q⟩ := h
    have hu64 : (A.deeper (envOfC "merge_groups" (defScope sMg) s.heap.objs.size f cdv)).units + 64 < cLine := by have := hr.un; omega
    refine ⟨_, pss_cons (ps_set (i := 1) scMg.nd rfl (.inl rfl) (pe_dnewT))
      (pss_cons (ps_for (passes_of rfl) rfl (pi_tup (pe_ix ix_tup (pv 0) (pe_int) (fun _ _ => rfl))) (pg_tup rfl (pgs_cons (pg_name (i := 2) scMg.nd rfl (.inl rfl)) (pgs_cons (pg_name (i := 3) scMg.nd rfl (.inl rfl)) pgs_nil)))
        (pss_one (ps_asg (pe_op op_add (pe_dget2 (Nat.lt_of_le_of_lt (Nat.add_le_add_left (by decide) _) hu64) (pv 1) (pv 2) (pe_int) ⟨rfl, rfl, rfl, rfl⟩) (pv 3)) (pg_sub (pv 1) (pv 2) (set_dict (Nat.lt_of_le_of_lt (Nat.add_le_add_left (by decide) _) hu64))))))
      (pss_cons (ps_set (i := 4) scMg.nd rfl (.inl rfl) (pe_callTy (call_tupIt rfl) (by rfl) m_tuple (by decide +kernel) (pa_cons (pe_bm0 PySem.F.plainAttrs_dict PySem.F.slot_dict_items PySem.F.type_dict_items L2.DX.mt_itemsT (pv 1)) pa_nil)))
      (pss_cons (ps_if (pt_cmpR op_gt (pe_call GGr (hr.mono (by omega)) (by rfl) gGr FGr.kp bGr .nil pass0 (pa_cons (pv 4) pa_nil)) (pe_glob (by rfl) vBIG rBIG) (nomark _))
        (pss_one (ps_raise rfl (takes_of rfl rfl rfl rfl) (pmk_own0 PySem.F.excBase_ValueError xTG gTG ITG.kp ITG.raises (by rfl)))) pss_nil)
      (pss_one (ps_ret (pe_tup (pa_cons (pe_ix ix_tup (pv 0) (pe_int) (fun _ _ => rfl)) (pa_cons (pv 4) pa_nil)))))))), ?_⟩
    obtain ⟨ca, ga, xs, hi, hc, hgt, hpt⟩ := hI
    have lx := hpt.len
    have g1 := ok.g1
    have h10 := ok.g10
    refine fun D nD => ?_
    have sD := sameNew (o := .dT []) nD
    refine ⟨.ref i, rfl, i, _, 1, .ref ga, rfl, rfl, (TupK.of sD).sq hi, atI_nat (j := 1) rfl, ga, rfl, ⟨_, (TupK.of sD).sq hgt⟩, for_it (walk_tup (K := K) (a := ga) (xs := xs))
      (fun j σ H2 => ∃ (y2 y3 : Option V), σ = [some (.ref i), some (.ref D), y2, y3, none] ∧ Same H H2 ∧ H2 D = some (.dT ((mergeG (gs.take j)).map kG)))
      ⟨none, none, rfl, sD, upd_same⟩ (fun j σ H2 _ h => by obtain ⟨_, _, _, s2, _⟩ := h; exact (TupK.of s2).sq hgt) ?_ ?_⟩
    · rintro j v σ H2 H2' hlt ⟨y2, y3, rfl, s2, e2⟩ ⟨rfl, hv⟩
      have hj : j < gs.length := by omega
      have hg : gs[j]? = some gs[j] := List.getElem?_eq_getElem hj
      obtain ⟨gA, pA, hx, hG, hP⟩ := hpt.at hg
      have hv' : xs[j]? = some v := hv
      rw [hx] at hv'
      cases hv'
      have hl : ((mergeG (gs.take j)).map kG).length < sizeLine := by
        have := merge_len (gs.take j)
        rw [List.length_take] at this
        rw [List.length_map]
        exact small (by omega)
      have eP : H2' pA = some (.tup ((gs[j].1.map (Sum.inl : Int → L2.Key)).map kV)) := by rw [kG_tup]; exact s2 _ _ hP
      obtain ⟨p1, p2⟩ := put_add (acc := mergeG (gs.take j)) (by rw [mergeG_fst]; exact ded_nodup _) gs[j]
      refine ⟨gA, _, rfl, SqT.of (s2 _ _ hG), rfl, _, _, rfl, _, _, rfl, rfl, ?_⟩
      refine ⟨.ref D, rfl, D, rfl, .inr ⟨_, .inl e2⟩, .ref pA, rfl, _, DGet.t e2 eP, .int gs[j].2, rfl, ?_⟩
      rw [p2]
      refine ⟨_, _, rfl, rfl, .ref D, rfl, .ref pA, rfl, D, _, rfl, DPut.t e2 eP hl, _, _, rfl, samePut s2 nD, ?_⟩
      dsimp only
      rw [p1, upd_same, take_snoc hg, mergeG_snoc]
    rintro σ H2 ⟨y2, y3, rfl, s2, e2⟩
    rw [lx, List.take_length] at e2
    refine ⟨.ref D, rfl, .inr (.inr (.inl ⟨rfl, .inr ⟨_, e2⟩⟩)), D, _, rfl, rfl, e2, fun Vw nVw => ?_⟩
    refine ⟨Vw, D, _, rfl, upd_same, upNew nVw e2, fun H3 T as s3 hl hT hpr => ?_⟩
    have s23 := (sameNew (o := L2.DX.itemsO Vw D) nVw).trans s3
    have hm : PtAll H3 (as.map V.ref) (mergeG gs) := by
      refine pt_of (by rw [hl, List.length_map]) (fun j b g hb hg => ?_)
      obtain ⟨p, h1, h2⟩ := hpr j b (kG g) hb (by rw [List.getElem?_map, hg]; rfl)
      refine ⟨p, h1, ?_⟩
      rw [h2]
      unfold kG
      rw [kG_tup]
    have hlen := merge_len gs
    refine ⟨.ref T, rfl, T, _, _, rfl, SqT.of hT, hm.dp, merge_pos g1, by omega, fun H4 m s4 hm1 hm2 => ?_⟩
    have hov := over_max hm1 hm2
    have sA := (s2.trans s23).trans s4
    refine ⟨_, _, rfl, rfl, _, rfl, ite2 (fun h1 => ?_) (fun h1 => ?_)⟩
    · exact (q _ sA).1 (hov.mpr (of_decide_eq_true h1))
    have h1 : ¬ OverG gs := fun z => h1 (decide_eq_true (hov.mp z))
    refine ⟨.ref i, rfl, i, _, 0, .ref ca, rfl, rfl, (TupK.of sA).sq hi, atI_nat (j := 0) rfl, .ref T, rfl, (show (2 : Nat) ≤ sizeLine by decide), fun R nR => ?_⟩
    have sR := sameNew (o := .tup [.ref ca, .ref T]) nR
    exact (q _ (sA.trans sR)).2 h1 R (.tup (SqT.of upd_same) (.cons (dI_sq ((TupK.of (sA.trans sR)).sq hc)) (.cons (.tup ((TupK.of (s4.trans sR)).sq (SqT.of hT)) (hm.tk (TupK.of (s4.trans sR))).dp) .nil)))
end
end Pv

namespace Pv
open PySem PySem.Spec PyProof.Rows L2
abbrev sLD : Stmt := topS 31
theorem scLD : FnScope ["_law_instance_here", "_law_group", "_law_count", "_law_sizes", "_law_rows", "_law_wish", "_law_whole"] ["_law_instance_here", "_law_group", "_law_count"] (defScope sLD) := ⟨rfl, rfl, rfl, by decide +kernel, rfl, by decide +kernel, by decide +kernel⟩
abbrev sLG : Stmt := topS 32
theorem scLG : FnScope ["_law_instance_here", "_law_told", "e"] ["_law_instance_here"] (defScope sLG) := ⟨rfl, rfl, rfl, by decide +kernel, rfl, by decide +kernel, by decide +kernel⟩
abbrev sLM : Stmt := topS 33
theorem scLM : FnScope ["_law_instance_here", "_law_sizes", "_law_rows", "_law_lists", "_law_wish", "_law_count", "_law_found", "_law_other"] ["_law_instance_here"] (defScope sLM) := ⟨rfl, rfl, rfl, by decide +kernel, rfl, by decide +kernel, by decide +kernel⟩
abbrev sLS : Stmt := topS 30
theorem scLS : FnScope ["_law_instance_here", "_law_group", "_law_count", "_law_told", "e"] ["_law_instance_here", "_law_group", "_law_count"] (defScope sLS) := ⟨rfl, rfl, rfl, by decide +kernel, rfl, by decide +kernel, by decide +kernel⟩
theorem iteFF {c : Bool} {A B : Prop} (hc : c = false) (h : B) : if c = true then A else B := by rw [if_neg (by rw [hc]; decide)]; exact h
theorem iteTT {c : Bool} {A B : Prop} (hc : c = true) (h : A) : if c = true then A else B := by rw [if_pos hc]; exact h
def okS (gs : List Gp) (d1 d2 : PyData) : Prop := okG1 gs d1 = true ∧ okG2 gs d1 d2 = true ∧ gs.length ≠ 10
def DueT (K : PySem.W.Frag) (H : Hp) (p : Addr) (cs : List Int) (gs : List Gp) (d1 d2 : PyData) : Prop :=
  (okS gs d1 d2 → ∃ e, H p = some (.lst [.str "returned", .ref e]) ∧ InsT K H e cs (splitG gs (idx d1) (numD d2))) ∧ (¬ okS gs d1 d2 → ∃ w x y, H p = some (.lst [.str w, x, y]) ∧ w ≠ "returned")
section
variable {P : Program} {w : World} {K : PySem.W.Frag} {mg : Str → Option Value} {base : Heap}
def spLD (K : PySem.W.Frag) : Sp := fun vs H Q _ => ∃ (st r i : Addr) (v1 v2 : V) (cs : List Int) (gs : List Gp) (d1 d2 : PyData), vs = [.ref i, v1, v2] ∧ InsT K H i cs gs ∧ InsOk cs gs ∧ Dq K st r H v1 d1 ∧ Dq K st r H v2 d2 ∧
  (d1.showable = true ∧ d1.depth ≤ 60 ∧ d1.shown.length ≤ sizeLine) ∧ (d2.showable = true ∧ d2.depth ≤ 60 ∧ d2.shown.length ≤ sizeLine) ∧ ∀ H' p, Same H H' → Dp K H' (.ref p) (toldS cs gs d1 d2) → DueT K H' p cs gs d1 d2 → Q (.ref p) H'
set_option maxHeartbeats 8000000 in
theorem ok_LD {f fLI : Addr} {fd fdLI : FuncData} (F : Fun K "_law_split_due" "_law_split_due" sLD f fd)
    (FLI : Fun K "_law_integer" "_law_integer" sInteg fLI fdLI) (bLI : Binds K fdLI ["_law_value", "_law_low", "_law_high"] []) (gLI : mg "_law_integer" = some (.ref fLI)) (GLI : FnOk P w K mg base CX0 1 fLI fdLI ["_law_value", "_law_low", "_law_high"] (spInteg K))
    (m_len : mg "len" = none) (m_repr : mg "repr" = none) :
    FnG P w K mg base 2 f fd ["_law_instance_here", "_law_group", "_law_count"] (spLD K) := by
  refine okG F scLD (fun vs H Q E h => ?_) (fun cdv A outer s H vs Q E hgd hr h => ?_)
  · obtain ⟨st, r, i, v1, v2, cs, gs, d1, d2, rfl, _⟩ := h; rfl
  · obtain ⟨st, r, i, v1, v2, cs, gs, d1, d2, rfl, hI, ok, h1, h2, sh1, sh2, q⟩ := h
    refine ⟨_, pss_cons (ps_asg (pv 0) (pg_tup rfl (pgs_cons (pg_name (i := 3) scLD.nd rfl (.inl rfl)) (pgs_cons (pg_name (i := 4) scLD.nd rfl (.inl rfl)) pgs_nil))))
      (pss_cons (ps_if (pt_not (pt_val (pe_call GLI (hr.mono (by omega)) (by rfl) gLI FLI.kp bLI .nil pass0 (pa_cons (pv 1) (pa_cons (pe_int) (pa_cons (pe_op op_sub (pe_callB call_lenQ (by rfl) m_len PySem.boot_len (pa_cons (pv 4) pa_nil)) (pe_int)) pa_nil))))))
        (pss_one (ps_ret (pe_lst (pa_cons (pe_str) (pa_cons (pe_callB (call_reprR hgd (hu70 hr)) (by rfl) m_repr (by decide +kernel) (pa_cons (pv 1) pa_nil)) (pa_cons (pe_bl) pa_nil)))))) pss_nil)
      (pss_cons (ps_asg (pe_ix ix_tup (pv 4) (pv 1) (fun _ _ => rfl)) (pg_tup rfl (pgs_cons (pg_name (i := 5) scLD.nd rfl (.inl rfl)) (pgs_cons (pg_name (i := 6) scLD.nd rfl (.inl rfl)) pgs_nil))))
      (pss_cons (ps_if (pt_not (pt_val (pe_call GLI (hr.mono (by omega)) (by rfl) gLI FLI.kp bLI .nil pass0 (pa_cons (pv 2) (pa_cons (pe_int) (pa_cons (pe_op op_sub (pv 6) (pe_int)) pa_nil))))))
        (pss_one (ps_ret (pe_lst (pa_cons (pe_str) (pa_cons (pe_callB (call_reprR hgd (hu70 hr)) (by rfl) m_repr (by decide +kernel) (pa_cons (pv 2) pa_nil)) (pa_cons (pe_bl) pa_nil)))))) pss_nil)
      (pss_cons (ps_if (pt_cmpR op_eq (pe_callB call_lenQ (by rfl) m_len PySem.boot_len (pa_cons (pv 4) pa_nil)) (pe_int) (nomark _))
        (pss_one (ps_ret (pe_lst (pa_cons (pe_str) (pa_cons (pe_int) (pa_cons (pe_bl) pa_nil)))))) pss_nil)
      (pss_one (ps_ret (pe_lst (pa_cons (pe_str) (pa_cons (pe_tup (pa_cons (pv 3) (pa_cons (pe_op op_catA (pe_op op_catA (pe_op op_catA (pe_slice sl_tupA (pv 4) po_none (po_some (pv 1))) (pe_tup (pa_cons (pe_tup (pa_cons (pv 5) (pa_cons (pv 2) pa_nil))) pa_nil))) (pe_slice sl_tupA (pv 4) (po_some (pe_op op_add (pv 1) (pe_int))) po_none)) (pe_tup (pa_cons (pe_tup (pa_cons (pv 5) (pa_cons (pe_op op_sub (pv 6) (pv 2)) pa_nil))) pa_nil))) pa_nil))) pa_nil))))))))), ?_⟩
    obtain ⟨ca, ga, xs, hi, hc, hgt, hpt⟩ := hI
    have lx := hpt.len
    have h10 := ok.g10
    refine ⟨.ref i, rfl, i, _, rfl, hi, rfl, _, _, rfl, _, _, rfl, rfl, ?_⟩
    refine ⟨v1, rfl, .ref ga, rfl, ga, _, rfl, .inr hgt, _, _, rfl, rfl, st, r, v1, d1, _, _, rfl, h1, ?_⟩
    rw [lx]
    have e1 : withinD 0 ((gs.length : Int) - 1) d1 = okG1 gs d1 := rfl
    rw [e1]
    cases hb : okG1 gs d1 with
    | false =>
      refine ⟨_, rfl, iteT ⟨v1, rfl, v1, d1, st, r, rfl, h1, sh1.1, sh1.2.1, sh1.2.2, (show (3 : Nat) ≤ sizeLine by decide), fun p np => ?_⟩⟩
      refine q _ p (sameNew np) ?_ ⟨fun z => absurd z.1 (by rw [hb]; decide), fun _ => ⟨_, _, _, upd_same, by decide⟩⟩
      unfold toldS
      rw [if_pos hb]
      exact .lst (SqL.of upd_same) (.cons (.str _) (.cons (.str _) (.cons (.bl _) .nil)))
    | true =>
    refine ⟨_, rfl, iteF ?_⟩
    have hnb : ¬ (okG1 gs d1 = false) := by rw [hb]; decide
    obtain ⟨a, rfl, ha0, ha1⟩ := within_int hb
    cases h1
    obtain ⟨n, rfl⟩ : ∃ n : Nat, a = n := ⟨a.toNat, by omega⟩
    have hn : n < gs.length := by omega
    have hg : gs[n]? = some gs[n] := List.getElem?_eq_getElem hn
    obtain ⟨gA, pA, hx, hG, hP⟩ := hpt.at hg
    have eg : gat gs n = gs[n] := gat_at hg
    refine ⟨.ref ga, rfl, .int (n : Nat), rfl, ga, _, _, _, rfl, rfl, hgt, atI_nat hx, gA, _, rfl, SqT.of hG, rfl, _, _, rfl, _, _, rfl, rfl, ?_⟩
    refine ⟨v2, rfl, .int gs[n].2, rfl, _, _, rfl, rfl, st, r, v2, d2, _, _, rfl, h2, ?_⟩
    have e2 : withinD 1 (gs[n].2 - 1) d2 = okG2 gs (.int (n : Nat)) d2 := by unfold okG2; rw [show idx (.int (n : Nat)) = n from rfl, eg]
    rw [e2]
    cases hb2 : okG2 gs (.int (n : Nat)) d2 with
    | false =>
      refine ⟨_, rfl, iteT ⟨v2, rfl, v2, d2, st, r, rfl, h2, sh2.1, sh2.2.1, sh2.2.2, (show (3 : Nat) ≤ sizeLine by decide), fun p np => ?_⟩⟩
      refine q _ p (sameNew np) ?_ ⟨fun z => absurd z.2.1 (by rw [hb2]; decide), fun _ => ⟨_, _, _, upd_same, by decide⟩⟩
      unfold toldS
      rw [if_neg hnb, if_pos hb2]
      exact .lst (SqL.of upd_same) (.cons (.str _) (.cons (.str _) (.cons (.bl _) .nil)))
    | true =>
    refine ⟨_, rfl, iteF ?_⟩
    have hnb2 : ¬ (okG2 gs (.int (n : Nat)) d2 = false) := by rw [hb2]; decide
    have hb2' := hb2
    rw [← e2] at hb2'
    obtain ⟨b, rfl, hb0, hb1⟩ := within_int hb2'
    cases h2
    refine ⟨.ref ga, rfl, ga, _, rfl, .inr hgt, rfl, _, rfl, ite2 (fun hl => ?_) (fun hl => ?_)⟩
    · have hl : gs.length = 10 := by have := of_decide_eq_true hl; rw [lx] at this; simp at this; omega
      refine ⟨(show (3 : Nat) ≤ sizeLine by decide), fun p np => ?_⟩
      refine q _ p (sameNew np) ?_ ⟨fun z => absurd hl z.2.2, fun _ => ⟨_, _, _, upd_same, by decide⟩⟩
      unfold toldS
      rw [if_neg hnb, if_neg hnb2, if_pos hl]
      exact .lst (SqL.of upd_same) (.cons (.str _) (.cons (.int _) (.cons (.bl _) .nil)))
    have hl : gs.length ≠ 10 := fun z => hl (decide_eq_true (by rw [lx, z]; rfl))
    refine ⟨.ref ca, rfl, .ref ga, rfl, .int (n : Nat), rfl, _, rfl, take_eq hgt n (fun H1 b1 s1 hb1' => ⟨.ref pA, rfl, .int b, rfl, (show (2 : Nat) ≤ sizeLine by decide), fun T1 n1 => ⟨(show (1 : Nat) ≤ sizeLine by decide), fun T2 n2 => ?_⟩⟩)⟩
    have sT1 := sameNew (o := .tup [.ref pA, .int b]) n1
    have sT2 := sameNew (o := .tup [.ref T1]) n2
    refine cat_eq ((TupK.of (sT1.trans sT2)).sq hb1') (SqT.of upd_same) (Nat.le_of_lt (small (by rw [List.length_take]; simp; omega))) (fun H2 b2 s2 hb2' => ⟨.ref ga, rfl, .int (n : Nat), rfl, _, _, rfl, rfl, _, rfl, ?_⟩)
    have s02 := (s1.trans (sT1.trans sT2)).trans s2
    dsimp only [tNoPart]
    rw [show ((n : Int) + 1) = ((n + 1 : Nat) : Int) by omega]
    refine drop_eq ((TupK.of s02).sq hgt) (n + 1) (fun H3 b3 s3 hb3 => ?_)
    refine cat_eq ((TupK.of s3).sq hb2') hb3 (Nat.le_of_lt (small (by simp [List.length_take, List.length_drop]; omega))) (fun H4 b4 s4 hb4 => ?_)
    refine ⟨.ref pA, rfl, .int gs[n].2, rfl, .int b, rfl, _, _, rfl, rfl, (show (2 : Nat) ≤ sizeLine by decide), fun T3 n3 => ⟨(show (1 : Nat) ≤ sizeLine by decide), fun T4 n4 => ?_⟩⟩
    have sT3 := sameNew (o := .tup [.ref pA, .int (gs[n].2 - b)]) n3
    have sT4 := sameNew (o := .tup [.ref T3]) n4
    refine cat_eq ((TupK.of (sT3.trans sT4)).sq hb4) (SqT.of upd_same) (Nat.le_of_lt (small (by simp [List.length_take, List.length_drop]; omega))) (fun H5 b5 s5 hb5 => ⟨(show (2 : Nat) ≤ sizeLine by decide), fun R nR => ⟨(show (2 : Nat) ≤ sizeLine by decide), fun p np => ?_⟩⟩)
    have sR := sameNew (o := .tup [.ref ca, .ref b5]) nR
    have sp := sameNew (o := .lst [.str "returned", .ref R]) np
    have sE := (s5.trans sR).trans sp
    have sD := (s3.trans s4).trans ((sT3.trans sT4).trans sE)
    have sA := s02.trans sD
    have eS : splitG gs n b = (gs.take n ++ [(gs[n].1, b)]) ++ gs.drop (n + 1) ++ [(gs[n].1, gs[n].2 - b)] := by
      unfold splitG
      rw [eg, List.set_eq_take_append_cons_drop, if_pos hn]
      simp
    have hI' : InsT K (upd (upd H5 R (.tup [.ref ca, .ref b5])) p (.lst [.str "returned", .ref R])) R cs (splitG gs n b) := by
      refine ⟨ca, b5, _, (TupK.of sp).sq (SqT.of upd_same), (TupK.of sA).sq hc, (TupK.of (sR.trans sp)).sq hb5, ?_⟩
      rw [eS]
      have hA := hpt.tk (TupK.of sA)
      have eP := sA _ _ hP
      exact (((hA.take n).app (.cons (g := (gs[n].1, b)) ((sT2.trans (s2.trans sD)) _ _ upd_same) eP .nil)).app (hA.drop (n + 1))).app (.cons (g := (gs[n].1, gs[n].2 - b)) ((sT4.trans sE) _ _ upd_same) eP .nil)
    refine q _ p sA ?_ ⟨fun _ => ⟨R, upd_same, hI'⟩, fun z => absurd ⟨hb, hb2, hl⟩ z⟩
    unfold toldS
    rw [if_neg hnb, if_neg hnb2, if_neg hl]
    exact .lst (SqL.of upd_same) (.cons (.str _) (.cons hI'.dp .nil))
def spMT (K : PySem.W.Frag) : Sp := fun vs H Q _ => ∃ (i : Addr) (cs : List Int) (gs : List Gp), vs = [.ref i] ∧ InsT K H i cs gs ∧ InsOk cs gs ∧ ∀ H' v, Same H H' → Dp K H' v (mergedD cs gs) → Q v H'
def tsLG (K : PySem.W.Frag) (cVE cTM cBN : Addr) (a : Addr) (cls : Value) (d : Option Addr) : TS := tIfS (tAnd (tB (tCB (rIsX K a cls d) (tCons (tVar 2) (tCons (tC (.ref cVE)) tNil)))) (tNot (tB (tCB (rIsX K a cls d) (tCons (tVar 2) (tCons (tTup (tCons (tC (.ref cTM)) (tCons (tC (.ref cBN)) tNil))) tNil)))))) (tAsg (tC (.str "too great")) (gName 1)) tNext
set_option maxHeartbeats 4000000 in
theorem ok_LG {f fMg cVE cTG cTM cBN : Addr} {fd fdMg : FuncData} (F : Fun K "_law_merged" "_law_merged" sLG f fd)
    (FMg : Fun K "merge_groups" "merge_groups" sMg fMg fdMg) (bMg : Binds K fdMg ["instance"] []) (gMg : mg "merge_groups" = some (.ref fMg)) (GMg : FnOk P w K mg base (L2.CX P w) 2 fMg fdMg ["instance"] (spMg K cTG))
    (gTG : mg "TooGreat" = some (.ref cTG)) (gVE : mg "VoteError" = some (.ref cVE)) (gTM : mg "TooMany" = some (.ref cTM)) (gBN : mg "BadNumber" = some (.ref cBN)) (ITG : IsC K cTG)
    (x1 : PySem.W.exmOne K (.ref cTG) (.ref cTG) = some true) (x2 : PySem.W.kitOne K (.ref cTG) (.ref cVE) = some true) (x4 : PySem.W.kitAny K (.ref cTG) [.ref cTM, .ref cBN] = some false)
    (m_isinstance : mg "isinstance" = none) :
    FnOk P w K mg base CX0 4 f fd ["_law_instance_here"] (spMT K) := by
  refine F.ok scLG (fun vs H Q E h => ?_) (fun cdv A outer s H vs Q E hr h => ?_)
  · obtain ⟨i, cs, gs, rfl, _⟩ := h; rfl
  · obtain ⟨i, cs, gs, rfl, hI, ok, q⟩ := h
    refine ⟨_, pss_cons (ps_set (i := 1) scLG.nd rfl (.inl rfl) pe_str)
      (pss_cons (ps_try_as (i := 2) (tb := fun W => tAsg (tCallS (spMg K cTG) (WE W) (tCons (tVar 0) tNil)) (gName 1)) (ts := tsLG K cVE cTM cBN) (Wout := fun _ _ _ _ => False) rfl rfl scLG.nd rfl rfl ⟨rfl, by decide, Or.inl gTG⟩ takes0
        (fun W pn xe tk _ => pss_one (ps_set (i := 1) scLG.nd rfl (.inl rfl) (by exact (pe_callS GMg (hr.mono (by omega)) rfl gMg FMg.kp bMg (fun σ => passAt tk σ) (by exact (pa_cons (pv 0) pa_nil))))))
        (fun a oe cls d pn hz hf => by
          refine pss_one (ps_if (PW.pt (pw_and (pt_val (pe_callB (call_isX hz hf) (by rfl) m_isinstance (by decide +kernel) (pa_cons (pv 2) (pa_cons (pe_glob (v := .ref cVE) (by rfl) gVE rfl) pa_nil))))
            (pw_and1 (pt_not (pt_val (pe_callB (call_isX hz hf) (by rfl) m_isinstance (by decide +kernel) (pa_cons (pv 2) (pa_cons (pe_tup (pa_cons (pe_glob (v := .ref cTM) (by rfl) gTM rfl) (pa_cons (pe_glob (v := .ref cBN) (by rfl) gBN rfl) pa_nil))) pa_nil))))))))
            (pss_one (ps_set (i := 1) scLG.nd rfl (.inl rfl) pe_str)) pss_nil)))
      (pss_one (ps_ret (pv 1)))), ?_⟩
    refine ⟨.ref i, rfl, i, cs, gs, rfl, hI, ok, fun H2 s2 => ⟨fun hc => ?_, fun hc p hp => ?_⟩⟩
    · refine ⟨true, x1, fun _ e ne => ?_, fun z => nomatch z⟩
      refine ⟨.ref e, rfl, cTG, .ref cVE, true, rfl, ITG, (fun _ z => nomatch z), rfl, .inl ⟨_, .own _, x2⟩, _, rfl, iteT ?_⟩
      refine ⟨.ref e, rfl, (show (2 : Nat) ≤ sizeLine by decide), fun T nT => ?_⟩
      refine ⟨cTG, .ref T, false, rfl, ITG, (fun _ z => nomatch z), rfl, .inr ⟨T, _, _, rfl, upd_same, .cons (.own _) (.cons (.own _) .nil), x4⟩, _, rfl, iteT ?_⟩
      refine ⟨_, rfl, q _ _ (s2.trans (sameNew nT)) ?_⟩
      unfold mergedD; rw [if_pos hc]; exact .str _
    · refine ⟨_, rfl, q _ _ s2 ?_⟩
      unfold mergedD; rw [if_neg hc]; exact hp
end
end Pv

namespace Pv
open PySem PySem.Spec PyProof.Rows L2
section
variable {P : Program} {w : World} {K : PySem.W.Frag} {mg : Str → Option Value} {base : Heap}
def spTold (K : PySem.W.Frag) : Sp := fun vs H Q _ => ∃ (st r i : Addr) (v1 v2 : V) (cs : List Int) (gs : List Gp) (d1 d2 : PyData), vs = [.ref i, v1, v2] ∧ Dp K H (.ref i) (dInst cs gs) ∧ InsOk cs gs ∧ Dq K st r H v1 d1 ∧ Dq K st r H v2 d2 ∧
  (d1.showable = true ∧ d1.depth ≤ 60 ∧ d1.shown.length ≤ sizeLine) ∧ (d2.showable = true ∧ d2.depth ≤ 60 ∧ d2.shown.length ≤ sizeLine) ∧ ∀ H' p, Same H H' → Dp K H' (.ref p) (toldS cs gs d1 d2) → Q (.ref p) H'
def tsSNG (K : PySem.W.Frag) (cVE cTG cTM cBN cNG : Addr) (a : Addr) (cls : Value) (d : Option Addr) : TS := tAsg (tLst (tCons (tC (.str "group")) (tCons (tCB (rReprA K) (tCons (tXf a cls d cNG "value" (tVar 4)) tNil)) (tCons (tAndV (tCB (rIsX K a cls d) (tCons (tVar 4) (tCons (tC (.ty "LookupError")) tNil))) (tNotV (tCB (rIsX K a cls d) (tCons (tVar 4) (tCons (tC (.ty "ValueError")) tNil))))) tNil)))) (gName 3)
def tsSBN (K : PySem.W.Frag) (cVE cTG cTM cBN cNG : Addr) (a : Addr) (cls : Value) (d : Option Addr) : TS := tAsg (tLst (tCons (tC (.str "number")) (tCons (tCB (rReprA K) (tCons (tXf a cls d cBN "value" (tVar 4)) tNil)) (tCons (tAndV (tCB (rIsX K a cls d) (tCons (tVar 4) (tCons (tC (.ref cVE)) tNil))) (tNotV (tCB (rIsX K a cls d) (tCons (tVar 4) (tCons (tTup (tCons (tC (.ref cTM)) (tCons (tC (.ref cTG)) tNil))) tNil))))) tNil)))) (gName 3)
def tsSTM (K : PySem.W.Frag) (cVE cTG cTM cBN cNG : Addr) (a : Addr) (cls : Value) (d : Option Addr) : TS := tAsg (tLst (tCons (tC (.str "many")) (tCons (tXf a cls d cTM "limit" (tVar 4)) (tCons (tAndV (tCB (rIsX K a cls d) (tCons (tVar 4) (tCons (tC (.ref cVE)) tNil))) (tNotV (tCB (rIsX K a cls d) (tCons (tVar 4) (tCons (tC (.ref cTG)) tNil))))) tNil)))) (gName 3)
set_option maxHeartbeats 8000000 in
theorem ok_LS {f fSg cVE cTG cTM cBN cNG fiBN fiTM fiNG : Addr} {fd fdSg : FuncData} (F : Fun K "_law_split" "_law_split" sLS f fd)
    (FSg : Fun K "split_group" "split_group" sSg fSg fdSg) (bSg : Binds K fdSg ["instance", "group", "count"] []) (gSg : mg "split_group" = some (.ref fSg)) (GSg : FnOk P w K mg base (L2.CX P w) 4 fSg fdSg ["instance", "group", "count"] (spSg K cNG cBN cTM))
    (gVE : mg "VoteError" = some (.ref cVE)) (gTG : mg "TooGreat" = some (.ref cTG)) (gTM : mg "TooMany" = some (.ref cTM)) (gBN : mg "BadNumber" = some (.ref cBN)) (gNG : mg "NoGroup" = some (.ref cNG))
    (ING : IsC K cNG) (IBN : IsC K cBN) (ITM : IsC K cTM) (XNG : XL K cNG fiNG "value") (XBN : XF K cBN fiBN "value") (XTM : XF K cTM fiTM "limit")
    (xaNGNG : PySem.W.exmOne K (.ref cNG) (.ref cNG) = some true) (xaBNNG : PySem.W.exmOne K (.ref cBN) (.ref cNG) = some false) (xaBNBN : PySem.W.exmOne K (.ref cBN) (.ref cBN) = some true) (xaTMNG : PySem.W.exmOne K (.ref cTM) (.ref cNG) = some false) (xaTMBN : PySem.W.exmOne K (.ref cTM) (.ref cBN) = some false) (xaTMTM : PySem.W.exmOne K (.ref cTM) (.ref cTM) = some true) (kaNG : PySem.W.kitOne K (.ref cNG) (.type "LookupError") = some true) (kbNG : PySem.W.kitOne K (.ref cNG) (.type "ValueError") = some false) (kaBN : PySem.W.kitOne K (.ref cBN) (.ref cVE) = some true) (kbBN : PySem.W.kitAny K (.ref cBN) [.ref cTM, .ref cTG] = some false) (kaTM : PySem.W.kitOne K (.ref cTM) (.ref cVE) = some true) (kbTM : PySem.W.kitOne K (.ref cTM) (.ref cTG) = some false)
    (m_isinstance : mg "isinstance" = none) (m_repr : mg "repr" = none) (m_ValueError : mg "ValueError" = none) (m_LookupError : mg "LookupError" = none) :
    FnG P w K mg base 5 f fd ["_law_instance_here", "_law_group", "_law_count"] (spTold K) := by
  refine okG F scLS (fun vs H Q E h => ?_) (fun cdv A outer s H vs Q E hgd hr h => ?_)
  · obtain ⟨st, r, i, v1, v2, cs, gs, d1, d2, rfl, _⟩ := h; rfl
  · obtain ⟨st, r, i, v1, v2, cs, gs, d1, d2, rfl, hI, ok, h1, h2, sh1, sh2, q⟩ := h
    have hU := hu70 hr
    refine ⟨_, pss_cons (ps_set (i := 3) scLS.nd rfl (.inl rfl) pe_non)
      (pss_cons (ps_tries (tb := fun W => tAsg (tLst (tCons (tC (.str "returned")) (tCons (tCallS (spSg K cNG cBN cTM) (WE W) (tCons (tVar 0) (tCons (tVar 1) (tCons (tVar 2) tNil)))) tNil))) (gName 3)) (Wout := fun _ _ _ _ => False) rfl rfl scLS.nd takes0
        (fun W pn xe tk _ => pss_one (ps_set (i := 3) scLS.nd rfl (.inl rfl) (pe_lst (pa_cons pe_str (pa_cons (by exact (pe_callS GSg (hr.mono (by omega)) rfl gSg FSg.kp bSg (fun σ => passAt tk σ) (by exact (pa_cons (pv 0) (pa_cons (pv 1) (pa_cons (pv 2) pa_nil)))))) pa_nil)))))
        (.cons (i := 4) (ts := tsSNG K cVE cTG cTM cBN cNG) rfl rfl ⟨rfl, by decide, Or.inl gNG⟩ (fun a oe cls d pn hz hf => by
            refine pss_one (ps_set (i := 3) scLS.nd rfl (.inl rfl) (pe_lst (pa_cons pe_str (pa_cons (pe_callB (call_reprR hgd hU) (by rfl) m_repr (by decide +kernel) (pa_cons (pe_xf XNG.rd XNG.no hz hf (pv 4)) pa_nil)) (pa_cons (pe_and (pe_callB (call_isX hz hf) (by rfl) m_isinstance (by decide +kernel) (pa_cons (pv 4) (pa_cons (pe_bltn (v := .ty "LookupError") (by rfl) m_LookupError (by decide +kernel) rfl) pa_nil)))
              (pe_one (pe_not (pe_callB (call_isX hz hf) (by rfl) m_isinstance (by decide +kernel) (pa_cons (pv 4) (pa_cons (pe_bltn (v := .ty "ValueError") (by rfl) m_ValueError (by decide +kernel) rfl) pa_nil)))))) pa_nil)))))) (.cons (i := 4) (ts := tsSBN K cVE cTG cTM cBN cNG) rfl rfl ⟨rfl, by decide, Or.inl gBN⟩ (fun a oe cls d pn hz hf => by
            refine pss_one (ps_set (i := 3) scLS.nd rfl (.inl rfl) (pe_lst (pa_cons pe_str (pa_cons (pe_callB (call_reprR hgd hU) (by rfl) m_repr (by decide +kernel) (pa_cons (pe_xf XBN.rd XBN.no hz hf (pv 4)) pa_nil)) (pa_cons (pe_and (pe_callB (call_isX hz hf) (by rfl) m_isinstance (by decide +kernel) (pa_cons (pv 4) (pa_cons (pe_glob (v := .ref cVE) (by rfl) gVE rfl) pa_nil)))
              (pe_one (pe_not (pe_callB (call_isX hz hf) (by rfl) m_isinstance (by decide +kernel) (pa_cons (pv 4) (pa_cons (pe_tup (pa_cons (pe_glob (v := .ref cTM) (by rfl) gTM rfl) (pa_cons (pe_glob (v := .ref cTG) (by rfl) gTG rfl) pa_nil))) pa_nil)))))) pa_nil)))))) (.cons (i := 4) (ts := tsSTM K cVE cTG cTM cBN cNG) rfl rfl ⟨rfl, by decide, Or.inl gTM⟩ (fun a oe cls d pn hz hf => by
            refine pss_one (ps_set (i := 3) scLS.nd rfl (.inl rfl) (pe_lst (pa_cons pe_str (pa_cons (pe_xf XTM.rd XTM.no hz hf (pv 4)) (pa_cons (pe_and (pe_callB (call_isX hz hf) (by rfl) m_isinstance (by decide +kernel) (pa_cons (pv 4) (pa_cons (pe_glob (v := .ref cVE) (by rfl) gVE rfl) pa_nil)))
              (pe_one (pe_not (pe_callB (call_isX hz hf) (by rfl) m_isinstance (by decide +kernel) (pa_cons (pv 4) (pa_cons (pe_glob (v := .ref cTG) (by rfl) gTG rfl) pa_nil)))))) pa_nil)))))) .nil))))
      (pss_one (ps_ret (pv 3)))), ?_⟩
    have goNG : ∀ (v : V) (dv : PyData) (H2 : Hp), Same H H2 → Dq K st r H v dv → (dv.showable = true ∧ dv.depth ≤ 60 ∧ dv.shown.length ≤ sizeLine) → toldS cs gs d1 d2 = .list [.str "group", .str dv.shown, .bool true] → ∀ dx, H2 dx = none → ∀ e, (upd H2 dx (.xd [("value", v)])) e = none →
        tsSNG K cVE cTG cTM cBN cNG e (.ref cNG) (some dx) (endsOf { nx := fun σ H' => tRet (tVar 3) { nx := fun _ H' => Q .non H', rt := Q } σ H', rt := Q } 4) [some (.ref i), some v1, some v2, some .non, some (.ref e)] (upd H2 dx (.xd [("value", v)])) := by
      intro v dv H2 s2 hv hsh hj dx ndx e ne
      have sx := s2.trans (sameNew (o := .xd [("value", v)]) ndx)
      refine ⟨.ref e, rfl, rfl, rfl, dx, _, _, rfl, upd_same, rfl, ?_⟩
      refine ⟨v, dv, st, r, rfl, hv.lasts (.of sx), hsh.1, hsh.2.1, hsh.2.2, ?_⟩
      refine ⟨.ref e, rfl, cNG, .ty "LookupError", true, rfl, ING, (fun _ z => by cases z; exact ⟨_, upd_same⟩), rfl, .inl ⟨_, .ty _, kaNG⟩, _, rfl, iteT ?_⟩
      refine ⟨.ref e, rfl, cNG, .ty "ValueError", false, rfl, ING, (fun _ z => by cases z; exact ⟨_, upd_same⟩), rfl, .inl ⟨_, .ty _, kbNG⟩, _, rfl, (show (3 : Nat) ≤ sizeLine by decide), fun p np => ?_⟩
      refine ⟨_, rfl, q _ p (sx.trans (sameNew np)) ?_⟩
      rw [hj]
      exact .lst (SqL.of upd_same) (.cons (.str _) (.cons (.str _) (.cons (.bl _) .nil)))
    have goBN : ∀ (v : V) (dv : PyData) (H2 : Hp), Same H H2 → Dq K st r H v dv → (dv.showable = true ∧ dv.depth ≤ 60 ∧ dv.shown.length ≤ sizeLine) → toldS cs gs d1 d2 = .list [.str "number", .str dv.shown, .bool true] → ∀ dx, H2 dx = none → ∀ e, (upd H2 dx (.xd [("value", v)])) e = none →
        tsSBN K cVE cTG cTM cBN cNG e (.ref cBN) (some dx) (endsOf { nx := fun σ H' => tRet (tVar 3) { nx := fun _ H' => Q .non H', rt := Q } σ H', rt := Q } 4) [some (.ref i), some v1, some v2, some .non, some (.ref e)] (upd H2 dx (.xd [("value", v)])) := by
      intro v dv H2 s2 hv hsh hj dx ndx e ne
      have sx := s2.trans (sameNew (o := .xd [("value", v)]) ndx)
      refine ⟨.ref e, rfl, rfl, rfl, dx, _, _, rfl, upd_same, rfl, ?_⟩
      refine ⟨v, dv, st, r, rfl, hv.lasts (.of sx), hsh.1, hsh.2.1, hsh.2.2, ?_⟩
      refine ⟨.ref e, rfl, cBN, .ref cVE, true, rfl, IBN, (fun _ z => by cases z; exact ⟨_, upd_same⟩), rfl, .inl ⟨_, .own _, kaBN⟩, _, rfl, iteT ?_⟩
      refine ⟨.ref e, rfl, (show (2 : Nat) ≤ sizeLine by decide), fun T nT => ?_⟩
      refine ⟨cBN, .ref T, false, rfl, IBN, (fun _ z => by cases z; exact ⟨_, upNew nT upd_same⟩), rfl, .inr ⟨T, _, _, rfl, upd_same, .cons (.own _) (.cons (.own _) .nil), kbBN⟩, _, rfl, (show (3 : Nat) ≤ sizeLine by decide), fun p np => ?_⟩
      refine ⟨_, rfl, q _ p ((sx.trans (sameNew nT)).trans (sameNew np)) ?_⟩
      rw [hj]
      exact .lst (SqL.of upd_same) (.cons (.str _) (.cons (.str _) (.cons (.bl _) .nil)))
    have goTM : ∀ (H2 : Hp), Same H H2 → toldS cs gs d1 d2 = .list [.str "many", .int 10, .bool true] → ∀ dx, H2 dx = none → ∀ e, (upd H2 dx (.xd [("limit", .int 10)])) e = none →
        tsSTM K cVE cTG cTM cBN cNG e (.ref cTM) (some dx) (endsOf { nx := fun σ H' => tRet (tVar 3) { nx := fun _ H' => Q .non H', rt := Q } σ H', rt := Q } 4) [some (.ref i), some v1, some v2, some .non, some (.ref e)] (upd H2 dx (.xd [("limit", .int 10)])) := by
      intro H2 s2 hj dx ndx e ne
      have sx := s2.trans (sameNew (o := .xd [("limit", .int 10)]) ndx)
      refine ⟨.ref e, rfl, rfl, rfl, dx, _, _, rfl, upd_same, rfl, ?_⟩
      refine ⟨.ref e, rfl, cTM, .ref cVE, true, rfl, ITM, (fun _ z => by cases z; exact ⟨_, upd_same⟩), rfl, .inl ⟨_, .own _, kaTM⟩, _, rfl, iteT ?_⟩
      refine ⟨.ref e, rfl, cTM, .ref cTG, false, rfl, ITM, (fun _ z => by cases z; exact ⟨_, upd_same⟩), rfl, .inl ⟨_, .own _, kbTM⟩, _, rfl, (show (3 : Nat) ≤ sizeLine by decide), fun p np => ?_⟩
      refine ⟨_, rfl, q _ p (sx.trans (sameNew np)) ?_⟩
      rw [hj]
      exact .lst (SqL.of upd_same) (.cons (.str _) (.cons (.int _) (.cons (.bl _) .nil)))
    refine ⟨.ref i, rfl, v1, rfl, v2, rfl, st, r, i, v1, v2, cs, gs, d1, d2, rfl, hI, ok, h1, h2, fun H2 s2 => ⟨fun hc d nd => ?_, fun hc1 hc2 d nd => ?_, fun hc1 hc2 hc3 d nd => ?_, fun hc1 hc2 hc3 p hp => ⟨(show (2 : Nat) ≤ sizeLine by decide), fun L nL => ⟨_, rfl, ?_⟩⟩⟩⟩
    · exact ⟨true, xaNGNG, fun _ e ne => goNG v1 d1 H2 s2 h1 sh1 (by unfold toldS; rw [if_pos hc]) d nd e ne, fun z => nomatch z⟩
    · exact ⟨false, xaBNNG, (fun z => nomatch z), fun _ => ⟨true, xaBNBN, fun _ e ne => goBN v2 d2 H2 s2 h2 sh2 (by unfold toldS; rw [if_neg (by rw [hc1]; decide), if_pos hc2]) d nd e ne, fun z => nomatch z⟩⟩
    · exact ⟨false, xaTMNG, (fun z => nomatch z), fun _ => ⟨false, xaTMBN, (fun z => nomatch z), fun _ => ⟨true, xaTMTM, fun _ e ne => goTM H2 s2 (by unfold toldS; rw [if_neg (by rw [hc1]; decide), if_neg (by rw [hc2]; decide), if_pos hc3]) d nd e ne, fun z => nomatch z⟩⟩⟩
    · refine q _ L (s2.trans (sameNew nL)) ?_
      unfold toldS
      rw [if_neg (by rw [hc1]; decide), if_neg (by rw [hc2]; decide), if_neg hc3]
      exact .lst (SqL.of upd_same) (.cons (.str _) (.cons ((TupK.new nL).dp _ _ (to_dInst _ _) hp) .nil))
end
end Pv

namespace Pv
open PySem PySem.Spec PyProof.Rows L2
theorem lay_rows : ∀ ws : List (List Int), PyData.canLayAll0 (ws.map dI) = true ∧ PyData.depthAll (ws.map dI) ≤ 1
  | [] => by simp [PyData.canLayAll0, PyData.depthAll]
  | g :: ws => by
    obtain ⟨h1, h2⟩ := lay_rows ws
    have l := lay_ints g
    have d := dep_ints g
    constructor
    · simp [PyData.canLayAll0, PyData.canLay0, dI, l, h1]
    · simp only [List.map_cons, PyData.depthAll, PyData.depth, dI, d]
      omega
theorem shaped_rows (ws : List (List Int)) : SeqAt.shaped (.list (ws.map dI)) = true := by
  obtain ⟨h1, h2⟩ := lay_rows ws
  show (PyData.canLay0 (.list (ws.map dI)) && decide (PyData.depth (.list (ws.map dI)) ≤ 64)) = true
  rw [Bool.and_eq_true]
  refine ⟨by simp only [PyData.canLay0]; exact h1, decide_eq_true ?_⟩
  simp only [PyData.depth]; omega
theorem any_in (ws : List (List Int)) (w : List Int) : (ws.map dI).any (fun z => PyData.eqv z (dI w)) = decide (w ∈ ws) := by
  rw [Bool.eq_iff_iff, List.any_eq_true, decide_eq_true_eq]
  constructor
  · rintro ⟨z, hz, e⟩
    obtain ⟨a, ha, rfl⟩ := List.mem_map.mp hz
    rw [eqv_ints, decide_eq_true_eq] at e
    exact e ▸ ha
  · intro h
    exact ⟨dI w, List.mem_map_of_mem h, by rw [eqv_ints]; simp⟩
section
variable {P : Program} {w : World} {K : PySem.W.Frag} {mg : Str → Option Value} {base : Heap}
def spMD (K : PySem.W.Frag) : Sp := fun vs H Q _ => ∃ (i : Addr) (cs : List Int) (gs : List Gp), vs = [.ref i] ∧ Dp K H (.ref i) (dInst cs gs) ∧ InsOk cs gs ∧ ∀ H' v, Same H H' → Dp K H' v (mergedD cs gs) → Q v H'
set_option maxHeartbeats 8000000 in
theorem ok_LM {f : Addr} {fd : FuncData} (F : Fun K "_law_merged_due" "_law_merged_due" sLM f fd)
    (m_sum : mg "sum" = none) (m_max : mg "max" = none) (m_tuple : mg "tuple" = none) :
    FnOk P w K mg base CX0 1 f fd ["_law_instance_here"] (spMD K) := by
  refine F.ok scLM (fun vs H Q E h => ?_) (fun cdv A outer s H vs Q E hr h => ?_)
  · obtain ⟨i, cs, gs, rfl, _⟩ := h; rfl
  · obtain ⟨i, cs, gs, rfl, hI, ok, q⟩ := h
    have hu64 : (A.deeper (envOfC "_law_merged_due" (defScope sLM) s.heap.objs.size f cdv)).units + 64 < cLine := by have := hr.un; omega
    have hu65 : (A.deeper (envOfC "_law_merged_due" (defScope sLM) s.heap.objs.size f cdv)).units + 65 < cLine := by have := hr.un; omega
    refine ⟨_, pss_cons (ps_asg (pv 0) (pg_tup rfl (pgs_cons (pg_name (i := 1) scLM.nd rfl (.inl rfl)) (pgs_cons (pg_name (i := 2) scLM.nd rfl (.inr rfl)) pgs_nil))))
      (pss_cons (ps_set (i := 3) scLM.nd rfl (.inl rfl) (pe_lst (pa_nil)))
      (pss_cons (ps_for PassesOwn.never rfl (pi_tup (pv 2)) (pg_tup rfl (pgs_cons (pg_name (i := 4) scLM.nd rfl (.inl rfl)) (pgs_cons (pg_name (i := 5) scLM.nd rfl (.inl rfl)) pgs_nil)))
        (pss_one (ps_if (pt_cmpR (op_notInD hu65) (pv 4) (pv 3) (by rfl))
          (pss_one (ps_expr (pe_bm PySem.F.plainAttrs_list PySem.F.slot_list_append PySem.F.type_list_append mt_append (pv 3) (pa_cons (pv 4) pa_nil)))) pss_nil)))
      (pss_cons (ps_setLc (i := 6) (own := [("_law_wish", 4)]) (g := gName 4) (tt := tYes) (te := tTup (tCons (tVar 4) (tCons (tCB (rSum K) (tCons (tLc (iTup K (tVar 2)) (gTup K 2 (gCons (gName 7) (gCons (gName 5) gNil))) (tTest (tOp (rEqD K) (tVar 7) (tVar 4))) (tVar 5) [7, 5]) tNil)) tNil))) rfl scLM.nd rfl rfl (sw_true rfl rfl rfl (by decide +kernel)) (pi_list (pv 3)) (blkOk_by (N := ["_law_instance_here", "_law_sizes", "_law_rows", "_law_lists", "_law_wish", "_law_count", "_law_found", "_law_other"]) (sc := defScope sLM) (by decide +kernel)) (fun _ _ _ _ _ => pg_name (i := 4) scLM.nd rfl (.inr rfl)) (fun _ _ _ _ _ => pts_nil) (fun _ _ _ _ _ => pe_tup (pa_cons (pv 4) (pa_cons (pe_callB (cr_sum rfl) (by rfl) m_sum (by decide +kernel) (pa_cons (pe_lc (own := [("_law_other", 7), ("_law_count", 5)]) (g := gTup K 2 (gCons (gName 7) (gCons (gName 5) gNil))) (tt := tTest (tOp (rEqD K) (tVar 7) (tVar 4))) (te := tVar 5) rfl scLM.nd (pi_tup (pv 2)) (blkOk_by (N := ["_law_instance_here", "_law_sizes", "_law_rows", "_law_lists", "_law_wish", "_law_count", "_law_found", "_law_other"]) (sc := { kind := .function, names := [(".0", .local), ("_law_wish", .cell), ("sum", .globalImplicit), ("_law_rows", .cell)], isGenerator := false, isCoroutine := false }) (by decide +kernel)) (fun _ _ _ _ _ => pg_tup rfl (pgs_cons (pg_name (i := 7) scLM.nd rfl (.inl rfl)) (pgs_cons (pg_name (i := 5) scLM.nd rfl (.inl rfl)) pgs_nil))) (fun _ _ _ _ _ => pts_one (pt_cmpR (op_eqD hu64) (pv 7) (pv 4) (nomark _))) (fun _ _ _ _ _ => pv 5)) pa_nil)) pa_nil))))
      (pss_cons (ps_if (pt_cmpR op_gt (pe_callB (cr_max rfl) (by rfl) m_max (by decide +kernel) (pa_cons (pe_lc (own := [("_law_wish", 4), ("_law_count", 5)]) (g := gTup K 2 (gCons (gName 4) (gCons (gName 5) gNil))) (tt := tYes) (te := tVar 5) rfl scLM.nd (pi_list (pv 6)) (blkOk_by (N := ["_law_instance_here", "_law_sizes", "_law_rows", "_law_lists", "_law_wish", "_law_count", "_law_found", "_law_other"]) (sc := defScope sLM) (by decide +kernel)) (fun _ _ _ _ _ => pg_tup rfl (pgs_cons (pg_name (i := 4) scLM.nd rfl (.inl rfl)) (pgs_cons (pg_name (i := 5) scLM.nd rfl (.inl rfl)) pgs_nil))) (fun _ _ _ _ _ => pts_nil) (fun _ _ _ _ _ => pv 5)) pa_nil)) (pe_op op_pow (pe_int) (pe_int)) (nomark _))
        (pss_one (ps_ret (pe_str))) pss_nil)
      (pss_one (ps_ret (pe_tup (pa_cons (pv 1) (pa_cons (pe_callTy call_tupQ (by rfl) m_tuple (by decide +kernel) (pa_cons (pv 6) pa_nil)) pa_nil))))))))), ?_⟩
    obtain ⟨_, ca, ga, xs, e, hi, hc, hgt, hgs⟩ := inst_open hI
    cases e
    have lx := DpAll.len hgs
    rw [List.length_map] at lx
    have g1 := ok.g1
    have h10 := ok.g10
    refine ⟨.ref i, rfl, i, _, rfl, hi, rfl, _, _, rfl, _, _, rfl, rfl, ?_⟩
    refine ⟨Nat.zero_le _, fun Ls nLs => ?_⟩
    have s0 := sameNew (o := .lst []) nLs
    refine ⟨.ref ga, rfl, ga, rfl, ⟨_, (TupK.of s0).sq hgt⟩, for_it (walk_tup (K := K) (a := ga) (xs := xs))
      (fun j σ H2 => ∃ (y4 y5 : Option V) (vs : List V), σ = [some (.ref i), some (.ref ca), some (.ref ga), some (.ref Ls), y4, y5, none, none] ∧ Same H H2 ∧ H2 Ls = some (.lst vs) ∧ DpAll K H2 vs ((ded ((gs.take j).map (·.1))).map dI))
      ⟨none, none, [], rfl, s0, upd_same, .nil⟩ (fun j σ H2 _ h => by obtain ⟨_, _, _, _, s2, _⟩ := h; exact (TupK.of s2).sq hgt) ?_ ?_⟩
    · rintro j v σ H2 H2' hlt ⟨y4, y5, vs, rfl, s2, e2, hvs⟩ ⟨rfl, hv⟩
      have hj : j < gs.length := by omega
      have hg : gs[j]? = some gs[j] := List.getElem?_eq_getElem hj
      obtain ⟨gA, pA, hx, hG, hP⟩ := grp_at hgs hg
      have hv' : xs[j]? = some v := hv
      rw [hx] at hv'
      cases hv'
      have hP2 := (TupK.of s2).sq hP
      refine ⟨gA, _, rfl, (TupK.of s2).sq hG, rfl, _, _, rfl, _, _, rfl, rfl, ?_⟩
      refine ⟨.ref pA, rfl, .ref Ls, rfl, dI gs[j].1, _, dI_sq hP2, .lst (SqL.of e2) hvs, shaped_dI _, shaped_rows _, _, rfl, ?_⟩
      have hin : ((ded ((gs.take j).map (·.1))).map dI).any (fun z => PyData.eqv z (dI gs[j].1)) = decide (gs[j].1 ∈ ded ((gs.take j).map (·.1))) := any_in _ _
      have esn : (gs.take (j + 1)).map (·.1) = (gs.take j).map (·.1) ++ [gs[j].1] := by rw [take_snoc hg, List.map_append]; rfl
      have hlv : vs.length ≤ 10 := by
        have h1 := DpAll.len hvs
        have h2 := ded_len ((gs.take j).map (·.1))
        rw [List.length_map] at h1
        rw [List.length_map, List.length_take] at h2
        omega
      refine ite2 (fun h1 => ?_) (fun h1 => ?_)
      · rw [hin] at h1
        have h1 : gs[j].1 ∉ ded ((gs.take j).map (·.1)) := by simpa using h1
        refine ⟨.ref Ls, rfl, .inl ⟨rfl, _, SqL.of e2⟩, .ref pA, rfl, Ls, _, _, rfl, rfl, e2, small (by omega), _, _, vs ++ [.ref pA], rfl, samePut s2 nLs, upd_same, ?_⟩
        have tkp : TupK H2' (upd H2' Ls (.lst (vs ++ [.ref pA]))) := TupK.put e2
        rw [esn, ded_snoc, dedS, if_neg h1, List.map_append]
        exact DpAll.app (tkp.dpAll _ _ (to_rows _) hvs) (.cons (dI_sq (tkp.sq hP2)) .nil)
      · rw [hin] at h1
        have h1 : gs[j].1 ∈ ded ((gs.take j).map (·.1)) := by simpa using h1
        refine ⟨_, _, vs, rfl, s2, e2, ?_⟩
        rw [esn, ded_snoc, dedS, if_pos h1]
        exact hvs
    rintro σ H2 ⟨y4, y5, vs, rfl, s2, e2, hvs⟩
    rw [lx, List.take_length] at hvs
    have hlv := DpAll.len hvs
    rw [List.length_map] at hlv
    have hdl := ded_len (gs.map (·.1))
    rw [List.length_map] at hdl
    refine ⟨.ref Ls, rfl, Ls, rfl, ⟨_, SqL.of e2⟩, fun D nD => lc_it (walk_list (K := K) (a := Ls) (xs := vs))
      (fun j H3 => Same H2 H3 ∧ ∃ ws, H3 D = some (.lst ws) ∧ ws.length = j ∧ DpAll K H3 ws (((mergeG gs).take j).map dGrp)) ⟨sameNew nD, [], upd_same, rfl, .nil⟩ (fun j H3 _ h => SqL.of (h.1 _ _ e2)) ?_ ?_⟩
    · rintro j v H3 H4 hlt ⟨s3, ws, e3, hwl, hws⟩ ⟨rfl, hv⟩
      have hv' : vs[j]? = some v := hv
      obtain ⟨d, hd, hvd⟩ := DpAll.at hvs hv'
      rw [List.getElem?_map] at hd
      obtain ⟨w', hw', rfl⟩ := Option.map_eq_some_iff.mp hd
      obtain ⟨pA, rfl, hP⟩ := dI_ref ((TupK.of s3).dp _ _ (to_dI w') hvd)
      have hm : (mergeG gs)[j]? = some (w', sumW gs w') := by rw [merge_eq, List.getElem?_map, hw']; rfl
      have hjl : j < 10 := by have := (List.getElem?_eq_some_iff.mp hw').1; omega
      refine ⟨rfl, .ref pA, rfl, .ref ga, rfl, ga, rfl, ⟨_, (TupK.of (s2.trans s3)).sq hgt⟩, fun D2 nD2 => lc_it (walk_tup (K := K) (a := ga) (xs := xs))
        (fun m H5 => Same H4 H5 ∧ H5 D2 = some (.lst ((((gs.take m).filter (fun g => decide (g.1 = w'))).map (·.2)).map V.int))) ⟨sameNew nD2, upd_same⟩ (fun m H5 _ h => (TupK.of ((s2.trans s3).trans h.1)).sq hgt) ?_ ?_⟩
      · rintro m x H5 H5' hltm ⟨s5, e5⟩ ⟨rfl, hx⟩
        have hml : m < gs.length := by omega
        have hg : gs[m]? = some gs[m] := List.getElem?_eq_getElem hml
        obtain ⟨gB, pB, hxb, hGB, hPB⟩ := grp_at hgs hg
        have hx' : xs[m]? = some x := hx
        rw [hxb] at hx'
        cases hx'
        have tkb := TupK.of ((s2.trans s3).trans s5)
        refine ⟨gB, _, rfl, tkb.sq hGB, rfl, _, _, rfl, _, _, rfl, rfl, rfl, .ref pB, rfl, .ref pA, rfl, dI gs[m].1, dI w', dI_sq (tkb.sq hPB), dI_sq ((TupK.of s5).sq hP), shaped_dI _, shaped_dI _, _, rfl, ite2 (fun h1 => ?_) (fun h1 => ?_)⟩
        · rw [eqv_ints] at h1
          have h1 := of_decide_eq_true h1
          refine ⟨_, rfl, _, e5, ?_, samePut s5 nD2, ?_⟩
          · rw [List.length_map, List.length_map]; exact small (Nat.le_trans (List.length_filter_le ..) (by rw [List.length_take]; omega))
          · rw [upd_same, take_snoc hg, List.filter_append, List.map_append, List.map_append]
            simp [h1]
        · rw [eqv_ints] at h1
          have h1 : ¬ (gs[m].1 = w') := fun z => h1 (decide_eq_true z)
          refine ⟨s5, ?_⟩
          rw [e5, take_snoc hg, List.filter_append]
          simp [h1]
      rintro H5 ⟨s5, e5⟩
      rw [lx, List.take_length] at e5
      refine ⟨D2, _, rfl, SqL.of e5, (show (2 : Nat) ≤ sizeLine by decide), fun T nT => ?_⟩
      have sT := sameNew (o := .tup [.ref pA, .int (sumW gs w')]) nT
      have s35 := s5.trans sT
      have e6 := s35 _ _ e3
      have tkp : TupK _ (upd (upd H5 T (.tup [.ref pA, .int (sumW gs w')])) D (.lst (ws ++ [.ref T]))) := TupK.put e6
      refine ⟨ws, e6, by rw [hwl]; exact small (by omega), samePut (s3.trans s35) nD, ws ++ [.ref T], upd_same, by simp [hwl], ?_⟩
      rw [take_snoc hm, List.map_append]
      exact DpAll.app (((TupK.of s35).trans tkp).dpAll _ _ (to_grps _) hws) (.cons (.tup (tkp.sq (SqT.of upd_same)) (.cons (dI_sq (((TupK.of s35).trans tkp).sq hP)) (.cons (.int _) .nil))) .nil)
    rintro H3 ⟨s3, ws, e3, hwl, hws⟩
    have hml : (mergeG gs).length = vs.length := by rw [merge_eq, List.length_map, hlv]
    rw [← hml, List.take_length] at hws
    have lws := DpAll.len hws
    rw [List.length_map] at lws
    have hmle := merge_len gs
    refine ⟨.ref D, rfl, D, rfl, ⟨_, SqL.of e3⟩, fun D2 nD2 => lc_it (walk_list (K := K) (a := D) (xs := ws))
      (fun j H4 => Same H3 H4 ∧ H4 D2 = some (.lst ((((mergeG gs).map (·.2)).take j).map V.int))) ⟨sameNew nD2, upd_same⟩ (fun j H4 _ h => SqL.of (h.1 _ _ e3)) ?_ ?_⟩
    · rintro j v H4 H4' hlt ⟨s4, e4⟩ ⟨rfl, hv⟩
      have hv' : ws[j]? = some v := hv
      obtain ⟨d, hd, hvd⟩ := DpAll.at hws hv'
      rw [List.getElem?_map] at hd
      obtain ⟨g, hg, rfl⟩ := Option.map_eq_some_iff.mp hd
      obtain ⟨gA, pA, rfl, hG, hP⟩ := grp_ref ((TupK.of s4).dp _ _ (to_dGrp g) hvd)
      refine ⟨gA, _, rfl, hG, rfl, _, _, rfl, _, _, rfl, rfl, rfl, .int g.2, rfl, _, e4, ?_, samePut s4 nD2, ?_⟩
      · rw [List.length_map, List.length_take]; exact small (by omega)
      · have hm : ((mergeG gs).map (·.2))[j]? = some g.2 := by rw [List.getElem?_map, hg]; rfl
        rw [upd_same, take_snoc hm]; simp
    rintro H4 ⟨s4, e4⟩
    rw [lws, List.take_of_length_le (by rw [List.length_map]; exact Nat.le_refl _)] at e4
    refine ⟨D2, _, rfl, SqL.of e4, by rw [List.length_map]; exact merge_pos g1, fun m hm1 hm2 => ?_⟩
    have hov := over_max hm1 (fun g hg => hm2 _ (List.mem_map_of_mem hg))
    have sA := (s2.trans s3).trans s4
    refine ⟨_, _, rfl, rfl, ⟨by decide, by decide, by decide⟩, _, _, rfl, rfl, _, rfl, ite2 (fun h1 => ?_) (fun h1 => ?_)⟩
    · refine q _ _ sA ?_
      unfold mergedD; rw [if_pos (hov.mpr (of_decide_eq_true h1))]; exact .str _
    have h1 : ¬ OverG gs := fun z => h1 (decide_eq_true (hov.mp z))
    refine ⟨.ref ca, rfl, .ref D, rfl, D, _, rfl, .inl ⟨SqL.of (s4 _ _ e3), fun T nT => ⟨(show (2 : Nat) ≤ sizeLine by decide), fun R nR => ?_⟩⟩⟩
    have sT := sameNew (o := .tup ws) nT
    have sR := sameNew (o := .tup [.ref ca, .ref T]) nR
    have sB := (sA.trans sT).trans sR
    refine q _ _ sB ?_
    unfold mergedD; rw [if_neg h1]
    exact .tup (SqT.of upd_same) (.cons (dI_sq ((TupK.of sB).sq hc)) (.cons (.tup ((TupK.of sR).sq (SqT.of upd_same)) ((TupK.of ((s4.trans sT).trans sR)).dpAll _ _ (to_grps _) hws)) .nil))
end
end Pv

namespace Pv
open PySem PySem.Spec PyProof.Rows L2
abbrev sLa : Stmt := topS 34
theorem scLa : FnScope ["_law_script", "_law_deck_here", "_law_turn", "_law_instance_here", "_law_kept", "_law_rows", "_law_k", "_law_group", "_law_whole", "_law_count", "_law_due"] ["_law_script"] (defScope sLa) := ⟨rfl, rfl, rfl, by decide +kernel, rfl, by decide +kernel, by decide +kernel⟩
abbrev BigM : Nat := 10 ^ 29
theorem nat_big {i : Int} (h : -2 ≤ i ∧ i ≤ 10 ^ 12 + 2) : i.natAbs ≤ BigM := by
  have : i.natAbs ≤ 10 ^ 12 + 2 := by omega
  exact Nat.le_trans this (by decide)
theorem fit_ins {cs : List Int} {gs : List Gp} (ok : InsOk cs gs) : Fit BigM 5 20000 (dInst cs gs) := by
  have h6 := ok.c6
  have h10 := ok.g10
  refine fit_dInst ⟨by omega, fun i hi => nat_big (by have := ok.cb i hi; omega)⟩ (by omega) (fun g hg => ?_)
  have := ok.gp g hg
  refine ⟨by omega, fun i hi => nat_big ?_, nat_big (by omega)⟩
  have := this.2.1 i hi
  omega
theorem fit_show {M : Nat} (hM : M < 10 ^ 35) {k W : Nat} {a : PyData} (ha : Fit M k W a) (hk : k ≤ 50) (hW : W ≤ 1000000) : a.showable = true ∧ a.depth ≤ 60 ∧ a.shown.length ≤ sizeLine := by
  obtain ⟨s1, s2⟩ := fit_ok hM ha.ok
  refine ⟨s1, Nat.le_trans ha.dp (by omega), Nat.le_trans s2 (Nat.le_trans ha.wt ?_)⟩
  rw [sizeLine_eq]; omega
theorem plainAll_of {ds : List PyData} (h : ∀ d ∈ ds, plain d = true) : plainAll ds = true := by
  induction ds with
  | nil => rfl
  | cons d ds ih => simp [plainAll, h d (by simp), ih (fun e he => h e (by simp [he]))]
theorem depthAll_of {k : Nat} {ds : List PyData} (h : ∀ d ∈ ds, d.depth ≤ k) : PyData.depthAll ds ≤ k := by
  induction ds with
  | nil => simp [PyData.depthAll]
  | cons d ds ih =>
    have h1 := h d (by simp)
    have h2 := ih (fun e he => h e (by simp [he]))
    simp only [PyData.depthAll]; omega
theorem plain_ns {ns : List Int} (h : ns.length ≤ 1000) : plain (dI ns) = true := by
  simp only [dI, plain, List.length_map, Bool.and_eq_true, decide_eq_true_eq]
  exact ⟨h, plainAll_of (by intro d hd; obtain ⟨n, _, rfl⟩ := List.mem_map.mp hd; rfl)⟩
theorem depth_ns (ns : List Int) : (dI ns).depth ≤ 1 := by
  have : PyData.depthAll (ns.map PyData.int) ≤ 0 := depthAll_of (by intro d hd; obtain ⟨n, _, rfl⟩ := List.mem_map.mp hd; simp [PyData.depth])
  simp only [dI, PyData.depth]; omega
theorem plain_grp {g : Gp} (h : g.1.length ≤ 1000) : plain (dGrp g) = true := by
  have := plain_ns h
  simp [dGrp, plain, plainAll, this]
theorem depth_grp (g : Gp) : (dGrp g).depth ≤ 2 := by
  have := depth_ns g.1
  simp only [dGrp, PyData.depth, PyData.depthAll]; omega
theorem plain_inst {cs : List Int} {gs : List Gp} (h1 : cs.length ≤ 1000) (h2 : gs.length ≤ 1000) (h3 : ∀ g ∈ gs, g.1.length ≤ 1000) : plain (dInst cs gs) = true := by
  have a1 := plain_ns h1
  have a2 : plainAll (gs.map dGrp) = true := plainAll_of (by intro d hd; obtain ⟨g, hg, rfl⟩ := List.mem_map.mp hd; exact plain_grp (h3 g hg))
  simp [dInst, plain, plainAll, a1, a2, h2]
theorem depth_inst (cs : List Int) (gs : List Gp) : (dInst cs gs).depth ≤ 4 := by
  have a1 := depth_ns cs
  have a2 : PyData.depthAll (gs.map dGrp) ≤ 2 := depthAll_of (by intro d hd; obtain ⟨g, hg, rfl⟩ := List.mem_map.mp hd; exact depth_grp g)
  simp only [dInst, PyData.depth, PyData.depthAll]; omega
theorem set_len_ok {gs : List Gp} (h : ∀ g ∈ gs, g.1.length ≤ 6) (i : Nat) : (gat gs i).1.length ≤ 6 := by
  unfold gat
  rw [List.getD_eq_getElem?_getD]
  cases e : gs[i]? with
  | none => simp
  | some g => exact h g (List.mem_of_getElem? e)
theorem split_ok {cs : List Int} {gs : List Gp} {d1 d2 : PyData} (ok : InsOk cs gs) (h : okS gs d1 d2) : InsOk cs (splitG gs (idx d1) (numD d2)) ∧ idx d1 < gs.length := by
  obtain ⟨h1, h2, h3⟩ := h
  obtain ⟨a, rfl, ha0, ha1⟩ := within_int (d := d1) h1
  obtain ⟨n, rfl⟩ : ∃ n : Nat, a = n := ⟨a.toNat, by omega⟩
  have hn : n < gs.length := by omega
  have eg : gat gs n = gs[n] := gat_at (List.getElem?_eq_getElem hn)
  have hi : idx (.int (n : Nat)) = n := rfl
  rw [hi]
  unfold okG2 at h2
  rw [hi, eg] at h2
  obtain ⟨b, rfl, hb0, hb1⟩ := within_int h2
  have hg := ok.gp gs[n] (List.getElem_mem hn)
  have h10 := ok.g10
  refine ⟨⟨ok.c1, ok.c6, ok.cb, ?_, ?_, ?_⟩, hn⟩
  · unfold splitG; simp
  · unfold splitG; simp; omega
  · intro g hm
    unfold splitG at hm
    rw [eg] at hm
    show g.1.length ≤ 6 ∧ _
    rcases List.mem_append.mp hm with hm | hm
    · rcases List.mem_or_eq_of_mem_set hm with hm | rfl
      · exact ok.gp g hm
      · exact ⟨hg.1, hg.2.1, hb0, by simp only [numD]; omega⟩
    · rw [List.mem_singleton.mp hm]
      exact ⟨hg.1, hg.2.1, by simp only [numD]; omega, by simp only [numD]; omega⟩
theorem split_plain {cs : List Int} {gs : List Gp} {d1 d2 : PyData} (ok : InsOk cs gs) : plain (toldS cs gs d1 d2) = true ∧ (toldS cs gs d1 d2).depth ≤ 5 := by
  unfold toldS
  split
  · exact ⟨rfl, by simp [PyData.depth, PyData.depthAll]⟩
  · split
    · exact ⟨rfl, by simp [PyData.depth, PyData.depthAll]⟩
    · split
      · exact ⟨rfl, by simp [PyData.depth, PyData.depthAll]⟩
      · rename_i h1 h2 h3
        have h := (split_ok ok ⟨by simpa using h1, by simpa using h2, h3⟩).1
        have h6 := h.c6
        have h10 := h.g10
        have p1 := plain_inst (cs := cs) (gs := splitG gs (idx d1) (numD d2)) (by omega) (by omega) (fun g hg => by have := (h.gp g hg).1; omega)
        have p2 := depth_inst cs (splitG gs (idx d1) (numD d2))
        exact ⟨by simp [plain, plainAll, p1], by simp only [PyData.depth, PyData.depthAll]; omega⟩
theorem merge_plain {cs : List Int} {gs : List Gp} (ok : InsOk cs gs) : plain (mergedD cs gs) = true ∧ (mergedD cs gs).depth ≤ 5 := by
  unfold mergedD
  split
  · exact ⟨rfl, by simp [PyData.depth]⟩
  · have h6 := ok.c6
    have h10 := ok.g10
    have hm := merge_len gs
    refine ⟨plain_inst (by omega) (by omega) (fun g hg => ?_), Nat.le_trans (depth_inst _ _) (by omega)⟩
    have h1 : g.1 ∈ (mergeG gs).map (·.1) := List.mem_map_of_mem hg
    rw [mergeG_fst, ded_mem] at h1
    obtain ⟨g', hg', e⟩ := List.mem_map.mp h1
    have := (ok.gp g' hg').1
    rw [← e]; omega
theorem merged_split {cs : List Int} {gs : List Gp} {i : Nat} {c : Int} (h : i < gs.length) : mergedD cs (splitG gs i c) = mergedD cs gs := by
  have e := split_merge (c := c) h
  unfold mergedD
  have : OverG (splitG gs i c) ↔ OverG gs := by unfold OverG; rw [e]
  by_cases o : OverG gs
  · rw [if_pos o, if_pos (this.mpr o)]
  · rw [if_neg o, if_neg (fun z => o (this.mp z)), e]
theorem ten_ok {cs : List Int} {gs : List Gp} (ok : InsOk cs gs) : InsOk cs ((List.replicate 10 gs).flatten.take 10) := by
  have h1 := ok.g1
  have hl : (List.replicate 10 gs).flatten.length = 10 * gs.length := by simp [List.length_flatten]; omega
  refine ⟨ok.c1, ok.c6, ok.cb, ?_, ?_, fun g hg => ?_⟩
  · rw [List.length_take, hl]; omega
  · rw [List.length_take, hl]; omega
  · have := List.mem_of_mem_take hg
    rw [List.mem_flatten] at this
    obtain ⟨l, hl', hg'⟩ := this
    rw [(List.mem_replicate.mp hl').2] at hg'
    exact ok.gp g hg'
section
variable {P : Program} {w : World} {K : PySem.W.Frag} {mg : Str → Option Value} {base : Heap}
def spLaw (K : PySem.W.Frag) : Sp := fun vs H Q _ => ∃ (a : Addr) (ns : List Int), vs = [.ref a] ∧ SqL K H a (ns.map V.int) ∧ ns.length ≤ 63 ∧ ∀ H', Q (.bl true) H'
set_option maxHeartbeats 8000000 in
theorem ok_La {f fSt fDr fIn fOd fOn fLD fLS fSm fLG fLM : Addr} {fd fdSt fdDr fdIn fdOd fdOn fdLD fdLS fdSm fdLG fdLM : FuncData} (F : Fun K "law" "law" sLa f fd)
    (FSt : Fun K "_law_deck" "_law_deck" sStart fSt fdSt) (bSt : Binds K fdSt ["_law_script"] []) (gSt : mg "_law_deck" = some (.ref fSt)) (GSt : FnOk P w K mg base CX0 1 fSt fdSt ["_law_script"] (spStart K))
    (FDr : Fun K "_law_next" "_law_next" sDraw fDr fdDr) (bDr : Binds K fdDr ["_law_deck_here", "_law_many"] []) (gDr : mg "_law_next" = some (.ref fDr)) (GDr : FnOk P w K mg base CX0 1 fDr fdDr ["_law_deck_here", "_law_many"] spDraw)
    (FIn : Fun K "_law_instance" "_law_instance" sInst fIn fdIn) (bIn : Binds K fdIn ["_law_deck_here", "_law_posts", "_law_groups", "_law_far"] []) (gIn : mg "_law_instance" = some (.ref fIn)) (GIn : FnOk P w K mg base CX0 4 fIn fdIn ["_law_deck_here", "_law_posts", "_law_groups", "_law_far"] (spInst K))
    (FOd : Fun K "_law_odd" "_law_odd" sOdd fOd fdOd) (bOd : Binds K fdOd ["_law_deck_here"] []) (gOd : mg "_law_odd" = some (.ref fOd)) (GOd : FnOk P w K mg base CX0 2 fOd fdOd ["_law_deck_here"] (spOdd K))
    (FOn : Fun K "_law_one" "_law_one" sOne fOn fdOn) (bOn : Binds K fdOn ["_law_deck_here", "_law_items"] []) (gOn : mg "_law_one" = some (.ref fOn)) (GOn : FnOk P w K mg base CX0 2 fOn fdOn ["_law_deck_here", "_law_items"] (spOne K))
    (FLD : Fun K "_law_split_due" "_law_split_due" sLD fLD fdLD) (bLD : Binds K fdLD ["_law_instance_here", "_law_group", "_law_count"] []) (gLD : mg "_law_split_due" = some (.ref fLD)) (GLD : FnG P w K mg base  2 fLD fdLD ["_law_instance_here", "_law_group", "_law_count"] (spLD K))
    (FLS : Fun K "_law_split" "_law_split" sLS fLS fdLS) (bLS : Binds K fdLS ["_law_instance_here", "_law_group", "_law_count"] []) (gLS : mg "_law_split" = some (.ref fLS)) (GLS : FnG P w K mg base  5 fLS fdLS ["_law_instance_here", "_law_group", "_law_count"] (spTold K))
    (FSm : Fun K "_law_same" "_law_same" sSame fSm fdSm) (bSm : Binds K fdSm ["_law_found", "_law_due"] []) (gSm : mg "_law_same" = some (.ref fSm)) (GSm : FnOk P w K mg base CX0 6 fSm fdSm ["_law_found", "_law_due"] (spS K 6))
    (FLG : Fun K "_law_merged" "_law_merged" sLG fLG fdLG) (bLG : Binds K fdLG ["_law_instance_here"] []) (gLG : mg "_law_merged" = some (.ref fLG)) (GLG : FnOk P w K mg base CX0 4 fLG fdLG ["_law_instance_here"] (spMT K))
    (FLM : Fun K "_law_merged_due" "_law_merged_due" sLM fLM fdLM) (bLM : Binds K fdLM ["_law_instance_here"] []) (gLM : mg "_law_merged_due" = some (.ref fLM)) (GLM : FnOk P w K mg base CX0 1 fLM fdLM ["_law_instance_here"] (spMD K))
    (m_range : mg "range" = none) (m_repr : mg "repr" = none) (m_len : mg "len" = none) :
    FnG P w K mg base 7 f fd ["_law_script"] (spLaw K) := by
  refine okG F scLa (fun vs H Q E h => ?_) (fun cdv A outer s H vs Q E hgd hr h => ?_)
  · obtain ⟨a, ns, rfl, _⟩ := h; rfl
  · obtain ⟨a, ns, rfl, hS, hn, q⟩ := h
    refine ⟨_, pss_cons (ps_set (i := 1) scLa.nd rfl (.inl rfl) (pe_call GSt (hr.mono (by omega)) (by rfl) gSt FSt.kp bSt .nil pass0 (pa_cons (pv 0) pa_nil)))
      (pss_cons (ps_for PassesOwn.never rfl (pi_range1 (by rfl) m_range (pa_cons (pe_int) pa_nil)) (pg_name (i := 2) scLa.nd rfl (.inl rfl))
        (pss_cons (ps_set (i := 3) scLa.nd rfl (.inl rfl) (pe_call GIn (hr.mono (by omega)) (by rfl) gIn FIn.kp bIn .nil pass0 (pa_cons (pv 1) (pa_cons (pe_int) (pa_cons (pe_int) (pa_cons (pe_call GDr (hr.mono (by omega)) (by rfl) gDr FDr.kp bDr .nil pass0 (pa_cons (pv 1) (pa_cons (pe_int) pa_nil))) pa_nil))))))
        (pss_cons (ps_if (pt_cmpR op_eq (pv 2) (pe_int) (nomark _))
          (pss_one (ps_set (i := 3) scLa.nd rfl (.inl rfl) (pe_tup (pa_cons (pe_ix ix_tup (pv 3) (pe_int) (fun _ _ => rfl)) (pa_cons (pe_slice sl_tupA (pe_op op_repA (pe_ix ix_tup (pv 3) (pe_int) (fun _ _ => rfl)) (pe_int)) po_none (po_some (pe_int))) pa_nil))))) pss_nil)
        (pss_cons (ps_set (i := 4) scLa.nd rfl (.inl rfl) (pe_callB (call_reprR hgd (hu70 hr)) (by rfl) m_repr (by decide +kernel) (pa_cons (pv 3) pa_nil)))
        (pss_cons (ps_set (i := 5) scLa.nd rfl (.inl rfl) (pe_ix ix_tup (pv 3) (pe_int) (fun _ _ => rfl)))
        (pss_cons (ps_for PassesOwn.never rfl (pi_range1 (by rfl) m_range (pa_cons (pe_int) pa_nil)) (pg_name (i := 6) scLa.nd rfl (.inl rfl))
          (pss_cons (ps_set (i := 7) scLa.nd rfl (.inl rfl) (pe_call GDr (hr.mono (by omega)) (by rfl) gDr FDr.kp bDr .nil pass0 (pa_cons (pv 1) (pa_cons (pe_callB call_lenQ (by rfl) m_len PySem.boot_len (pa_cons (pv 5) pa_nil)) pa_nil))))
          (pss_cons (ps_set (i := 8) scLa.nd rfl (.inl rfl) (pe_ix ix_tup (pe_ix ix_tup (pv 5) (pv 7) (fun _ _ => rfl)) (pe_int) (fun _ _ => rfl)))
          (pss_cons (ps_set (i := 7) scLa.nd rfl (.inl rfl) (pe_call GOn (hr.mono (by omega)) (by rfl) gOn FOn.kp bOn .nil pass0 (pa_cons (pv 1) (pa_cons (pe_lst (pa_cons (pv 7) (pa_cons (pv 7) (pa_cons (pv 7) (pa_cons (pv 7) (pa_cons (pe_callB call_lenQ (by rfl) m_len PySem.boot_len (pa_cons (pv 5) pa_nil)) (pa_cons (pe_un un_neg (pe_int)) (pa_cons (pe_call GOd (hr.mono (by omega)) (by rfl) gOd FOd.kp bOd .nil pass0 (pa_cons (pv 1) pa_nil)) pa_nil)))))))) pa_nil))))
          (pss_cons (ps_set (i := 9) scLa.nd rfl (.inl rfl) (pe_call GOn (hr.mono (by omega)) (by rfl) gOn FOn.kp bOn .nil pass0 (pa_cons (pv 1) (pa_cons (pe_lst (pa_cons (pe_int) (pa_cons (pe_op op_sub (pv 8) (pe_int)) (pa_cons (pv 8) (pa_cons (pe_int) (pa_cons (pe_op op_add (pe_int) (pe_op op_fdiv (pv 8) (pe_int))) (pa_cons (pe_op op_add (pe_int) (pe_call GDr (hr.mono (by omega)) (by rfl) gDr FDr.kp bDr .nil pass0 (pa_cons (pv 1) (pa_cons (pv 8) pa_nil)))) (pa_cons (pe_call GOd (hr.mono (by omega)) (by rfl) gOd FOd.kp bOd .nil pass0 (pa_cons (pv 1) pa_nil)) pa_nil)))))))) pa_nil))))
          (pss_cons (ps_set (i := 10) scLa.nd rfl (.inl rfl) (pe_callG GLD hgd (hr.mono (by omega)) (by rfl) gLD FLD.kp bLD (pa_cons (pv 3) (pa_cons (pv 7) (pa_cons (pv 9) pa_nil)))))
          (pss_cons (ps_if (pt_not (pt_val (pe_call GSm (hr.mono (by omega)) (by rfl) gSm FSm.kp bSm .nil pass0 (pa_cons (pe_callG GLS hgd (hr.mono (by omega)) (by rfl) gLS FLS.kp bLS (pa_cons (pv 3) (pa_cons (pv 7) (pa_cons (pv 9) pa_nil)))) (pa_cons (pv 10) pa_nil)))))
            (pss_one (ps_ret (pe_bl))) pss_nil)
          (pss_one (ps_if (PW.pt (pw_and (pt_cmpR op_eq (pe_ix ix_list (pv 10) (pe_int) (fun _ _ => rfl)) (pe_str) (nomark _)) (pw_and1 (pt_not (pt_val (pe_call GSm (hr.mono (by omega)) (by rfl) gSm FSm.kp bSm .nil pass0 (pa_cons (pe_call GLG (hr.mono (by omega)) (by rfl) gLG FLG.kp bLG .nil pass0 (pa_cons (pe_ix ix_list (pv 10) (pe_int) (fun _ _ => rfl)) pa_nil)) (pa_cons (pe_call GLM (hr.mono (by omega)) (by rfl) gLM FLM.kp bLM .nil pass0 (pa_cons (pv 3) pa_nil)) pa_nil))))))))
            (pss_one (ps_ret (pe_bl))) pss_nil)))))))))
        (pss_one (ps_if (PW.pt (pw_or (pt_not (pt_val (pe_call GSm (hr.mono (by omega)) (by rfl) gSm FSm.kp bSm .nil pass0 (pa_cons (pe_call GLG (hr.mono (by omega)) (by rfl) gLG FLG.kp bLG .nil pass0 (pa_cons (pv 3) pa_nil)) (pa_cons (pe_call GLM (hr.mono (by omega)) (by rfl) gLM FLM.kp bLM .nil pass0 (pa_cons (pv 3) pa_nil)) pa_nil))))) (pw_or1 (pt_cmpR op_ne (pe_callB (call_reprR hgd (hu70 hr)) (by rfl) m_repr (by decide +kernel) (pa_cons (pv 3) pa_nil)) (pv 4) (nomark _)))))
          (pss_one (ps_ret (pe_bl))) pss_nil))))))))
      (pss_one (ps_ret (pe_bl)))), ?_⟩
    refine ⟨.ref a, rfl, a, ns, rfl, hS, hn, fun H1 st c r s1 D1 => ?_⟩
    refine ⟨5, rfl, by decide, by decide, for_it (walk_range (lo := 0) (n := (5 : Int).toNat))
      (fun i σ H2 => ∃ (y2 y3 y4 y5 y6 y7 y8 y9 y10 : Option V) (t2 : Nat), σ = [some (.ref a), some (.ref st), y2, y3, y4, y5, y6, y7, y8, y9, y10] ∧ DS H2 st c r t2 ∧ t2 ≤ 1000 * i)
      ⟨none, none, none, none, none, none, none, none, none, 0, rfl, D1, by omega⟩ (fun _ _ _ _ _ => trivial) ?_ (fun σ H2 _ => q _)⟩
    rintro i v σ H2 H2' hlt ⟨y2, y3, y4, y5, y6, y7, y8, y9, y10, t2, rfl, d2, ht2⟩ ⟨rfl, rfl⟩
    have hi5 : i < 5 := hlt
    refine ⟨.ref st, rfl, .ref st, rfl, st, c, r, t2, _, rfl, d2, by omega, by decide, by decide, fun H3 far h30 h31 D3 X3 => ?_⟩
    refine ⟨st, c, r, t2 + 1, 6, 10, far, rfl, D3, by omega, ⟨by decide, by decide⟩, by decide, by decide, fun H4 I0 t4 cs gs0 D4 ht4 X4 hI0 ok0 hnd => ?_⟩
    dsimp only [gName]
    refine seq_with (t := tIfS _ _ _) (fun σ1 H5 => ∃ (I : Addr) (gs : List Gp), σ1 = [some (.ref a), some (.ref st), some (.int (0 + (i : Nat))), some (.ref I), y4, y5, y6, y7, y8, y9, y10] ∧ DS H5 st c r t4 ∧ InsT K H5 I cs gs ∧ InsOk cs gs) ?rest (fun rest => ?main)
    case main =>
      refine ⟨_, rfl, rfl, _, rfl, ite2 (fun h1 => ?_) (fun h1 => ?_)⟩
      · obtain ⟨ca, ga, xs, hi, hc, hgt, hpt⟩ := hI0
        have lx := hpt.len
        have g1 := ok0.g1
        have g10 := ok0.g10
        refine ⟨.ref I0, rfl, I0, _, 0, .ref ca, rfl, rfl, hi, atI_nat (j := 0) rfl, .ref I0, rfl, I0, _, 1, .ref ga, rfl, rfl, hi, atI_nat (j := 1) rfl, ga, 10, xs, rfl, rfl, hgt, (by intro z; rw [z] at lx; simp at lx; omega), by omega, by omega, (fun z => absurd z (by decide)), fun _ T nT => ?_⟩
        have sT := sameNew (o := .tup (List.replicate 10 xs).flatten) nT
        refine ⟨_, rfl, take_eq (n := 10) (SqT.of upd_same) (fun H5 b s5 hb => ⟨(show (2 : Nat) ≤ sizeLine by decide), fun R nR => ?_⟩)⟩
        have sR := sameNew (o := .tup [.ref ca, .ref b]) nR
        have sA := (sT.trans s5).trans sR
        exact rest _ _ ⟨R, (List.replicate 10 gs0).flatten.take 10, rfl, D4.same sA, ⟨ca, b, _, SqT.of upd_same, (TupK.of sA).sq hc, (TupK.of sR).sq hb, ((hpt.reps 10).take 10).tk (TupK.of sA)⟩, ten_ok ok0⟩
      · exact rest _ _ ⟨I0, gs0, rfl, D4, hI0, ok0⟩
    case rest =>
    rintro σ1 H5 ⟨I, gs, rfl, D5, hI, ok⟩
    have h6 := ok.c6
    have g1' := ok.g1
    have h10 := ok.g10
    have sI := fit_show (by decide) (fit_ins ok) (by decide) (by decide)
    have qI : Dq K st r H5 (.ref I) (dInst cs gs) := Dq.of_dp (to_dInst _ _) hI.dp
    refine ⟨.ref I, rfl, .ref I, dInst cs gs, st, r, rfl, qI, sI.1, sI.2.1, sI.2.2, ?_⟩
    obtain ⟨ca, ga, xs, hi, hc, hgt, hpt⟩ := id hI
    have lx := hpt.len
    refine ⟨.ref I, rfl, I, _, 1, .ref ga, rfl, rfl, hi, atI_nat (j := 1) rfl, ?_⟩
    refine ⟨6, rfl, by decide, by decide, for_it (walk_range (lo := 0) (n := (6 : Int).toNat))
      (fun k σ H6 => ∃ (z6 z7 z8 z9 z10 : Option V) (t6 : Nat), σ = [some (.ref a), some (.ref st), some (.int (0 + (i : Nat))), some (.ref I), some (.str (dInst cs gs).shown), some (.ref ga), z6, z7, z8, z9, z10] ∧ DS H6 st c r t6 ∧ t6 ≤ t4 + 20 * k ∧ TupK H5 H6)
      ⟨_, _, _, _, _, t4, rfl, D5, by omega, .refl _⟩ (fun _ _ _ _ _ => trivial) ?_ ?_⟩
    · rintro k v σ H6 H6' hltk ⟨z6, z7, z8, z9, z10, t6, rfl, D6, ht6, tk6⟩ ⟨rfl, rfl⟩
      have hk6 : k < 6 := hltk
      -- the group
      refine ⟨.ref st, rfl, .ref ga, rfl, ga, _, rfl, .inr (tk6.sq hgt), st, c, r, t6, _, rfl, D6, by omega, by rw [lx]; omega, by rw [lx]; omega, fun H7 dg hg0 hg1 D7 X7 => ?_⟩
      rw [lx] at hg1
      obtain ⟨n, rfl⟩ : ∃ n : Nat, dg = n := ⟨dg.toNat, by omega⟩
      have hn : n < gs.length := by omega
      have hgn : gs[n]? = some gs[n] := List.getElem?_eq_getElem hn
      have tk7 := tk6.trans (X7.tup D6)
      obtain ⟨gA, pA, hx, hG, hP⟩ := (hpt.tk tk7).at hgn
      have bw := (ok.gp gs[n] (List.getElem_mem hn)).2.2
      refine ⟨.ref ga, rfl, .int (n : Nat), rfl, ga, _, _, _, rfl, rfl, tk7.sq hgt, atI_nat hx, gA, _, 1, .int gs[n].2, rfl, rfl, SqT.of hG, atI_nat (j := 1) rfl, ?_⟩
      refine ⟨.ref st, rfl, .int (n : Nat), rfl, .int (n : Nat), rfl, .int (n : Nat), rfl, .int (n : Nat), rfl, .ref ga, rfl, ga, _, rfl, .inr (tk7.sq hgt), _, rfl, .ref st, rfl, st, c, r, t6 + 1, rfl, D7, by omega, fun H8 vo od D8 X8 qo fo no => ?_⟩
      refine ⟨(show (7 : Nat) ≤ sizeLine by decide), fun L1 n1 => ?_⟩
      obtain ⟨o11, o12, o13⟩ := D8.off n1
      refine ⟨st, c, r, L1, t6 + 1 + 1, _, rfl, D8.new n1, by omega, upd_same, o11, o13, by simp, by simp, fun H9 j1 vi hvi D9 X9 => ?_⟩
      have l89 : Lasts st r H8 H9 := (Lasts.new n1).trans (Lasts.ext (D8.new n1) X9)
      have tk9 := (tk7.trans (X8.tup D7)).trans l89.tk
      have fI : ∀ (Hx : Hp) (x : Int), -2 ≤ x ∧ x ≤ 10 ^ 12 + 2 → ∃ di, Dq K st r Hx (.int x) di ∧ Fit BigM 2 500 di := fun Hx x hx => ⟨_, .int _, Fit.int (nat_big hx) (by decide)⟩
      obtain ⟨di, qi, fi⟩ : ∃ di, Dq K st r H9 vi di ∧ Fit BigM 2 500 di := by
        have hm := List.mem_of_getElem? hvi
        simp only [List.mem_cons, List.not_mem_nil, or_false] at hm
        rcases hm with rfl | rfl | rfl | rfl | rfl | rfl | rfl
        · exact fI _ _ (by omega)
        · exact fI _ _ (by omega)
        · exact fI _ _ (by omega)
        · exact fI _ _ (by omega)
        · exact fI _ _ (by omega)
        · exact fI _ _ (by decide)
        · exact ⟨od, qo.lasts l89, fo⟩
      have D9' : DS H9 st c r (t6 + 3) := D9
      clear D9 X9 X8 qo fo no D8 l89 hvi
      -- the count
      refine ⟨.ref st, rfl, .int gs[n].2, rfl, _, _, rfl, rfl, .int gs[n].2, rfl, .int gs[n].2, rfl, _, _, rfl, rfl, ⟨by decide, by decide⟩, _, _, rfl, rfl, .ref st, rfl, .int gs[n].2, rfl, st, c, r, t6 + 3, _, rfl, D9', by omega, by omega, by omega, fun H10 dc hc0 hc1 D10 X10 => ?_⟩
      refine ⟨_, _, rfl, rfl, .ref st, rfl, st, c, r, t6 + 3 + 1, rfl, D10, by omega, fun H11 vo od D11 X11 qo fo no => ?_⟩
      refine ⟨(show (7 : Nat) ≤ sizeLine by decide), fun L2 n2 => ?_⟩
      obtain ⟨o21, o22, o23⟩ := D11.off n2
      refine ⟨st, c, r, L2, t6 + 3 + 1 + 1, _, rfl, D11.new n2, by omega, upd_same, o21, o23, by simp, by simp, fun H12 j2 vc hvc D12 X12 => ?_⟩
      have l1112 : Lasts st r H11 H12 := (Lasts.new n2).trans (Lasts.ext (D11.new n2) X12)
      have l912 : Lasts st r H9 H12 := ((Lasts.ext D9' X10).trans (Lasts.ext D10 X11)).trans l1112
      obtain ⟨dc', qc, fc⟩ : ∃ dc', Dq K st r H12 vc dc' ∧ Fit BigM 2 500 dc' := by
        have hm := List.mem_of_getElem? hvc
        simp only [List.mem_cons, List.not_mem_nil, or_false] at hm
        rcases hm with rfl | rfl | rfl | rfl | rfl | rfl | rfl
        · exact fI _ _ (by decide)
        · exact fI _ _ (by omega)
        · exact fI _ _ (by omega)
        · exact fI _ _ (by decide)
        · exact fI _ _ (by omega)
        · exact fI _ _ (by omega)
        · exact ⟨od, qo.lasts l1112, fo⟩
      have qi12 := qi.lasts l912
      have tk12 := tk9.trans l912.tk
      have hI12 := hI.tk tk12
      have sh1 := fit_show (by decide) fi (by decide) (by decide)
      have sh2 := fit_show (by decide) fc (by decide) (by decide)
      clear hvc qo fo no X12 X11 X10 D11 D10 l1112 l912 qi
      -- due, told
      refine ⟨.ref I, rfl, vi, rfl, vc, rfl, st, r, I, vi, vc, cs, gs, di, dc', rfl, hI12, ok, qi12, qc, sh1, sh2, fun H13 p13 s13 hp13 hdue => ?_⟩
      refine ⟨.ref I, rfl, vi, rfl, vc, rfl, st, r, I, vi, vc, cs, gs, di, dc', rfl, (hI12.tk (TupK.of s13)).dp, ok, qi12.lasts (.of s13), qc.lasts (.of s13), sh1, sh2, fun H14 p14 s14 hp14 => ?_⟩
      have tok := split_plain (d1 := di) (d2 := dc') ok
      refine ⟨.ref p13, rfl, _, _, _, rfl, hp14, same_dp s14 tok.1 hp13, tok.1, tok.2, fun H15 s15 => ⟨_, rfl, iteF ?_⟩⟩
      have s135 := s14.trans s15
      have sA := s13.trans s135
      have fin : ∀ H20, Same H12 H20 → ∃ (z6 z7 z8 z9 z10 : Option V) (t6' : Nat), [some (.ref a), some (.ref st), some (.int (0 + (i : Nat))), some (.ref I), some (.str (dInst cs gs).shown), some (.ref ga), some (.int (0 + (k : Nat))), some vi, some (.int gs[n].2), some vc, some (.ref p13)] = [some (.ref a), some (.ref st), some (.int (0 + (i : Nat))), some (.ref I), some (.str (dInst cs gs).shown), some (.ref ga), z6, z7, z8, z9, z10] ∧ DS H20 st c r t6' ∧ t6' ≤ t4 + 20 * (k + 1) ∧ TupK H5 H20 :=
        fun H20 s20 => ⟨_, _, _, _, _, t6 + 3 + 1 + 1 + 1, rfl, D12.same s20, by omega, tk12.trans (.of s20)⟩
      by_cases hk : okS gs di dc'
      · obtain ⟨e, he, hIe⟩ := hdue.1 hk
        obtain ⟨oke, hin⟩ := split_ok ok hk
        have he15 := s135 _ _ he
        refine ⟨.ref p13, rfl, p13, _, 0, _, rfl, rfl, SqL.of he15, atI_nat (j := 0) rfl, rfl, _, rfl, iteTT (by simp) ?_⟩
        refine ⟨.ref p13, rfl, p13, _, 1, _, rfl, rfl, SqL.of he15, atI_nat (j := 1) rfl, e, cs, _, rfl, hIe.tk (TupK.of s135), oke, fun H16 v16 s16 hv16 => ?_⟩
        refine ⟨.ref I, rfl, I, cs, gs, rfl, (hI12.tk (TupK.of (sA.trans s16))).dp, ok, fun H17 v17 s17 hv17 => ?_⟩
        rw [merged_split hin] at hv16
        have mp := merge_plain ok
        exact ⟨_, _, _, rfl, same_dp s17 mp.1 hv16, hv17, mp.1, mp.2, fun H18 s18 => ⟨_, rfl, iteF (fin _ (((sA.trans s16).trans s17).trans s18))⟩⟩
      · obtain ⟨w0, x0, y0, he, hw0⟩ := hdue.2 hk
        have he15 := s135 _ _ he
        exact ⟨.ref p13, rfl, p13, _, 0, _, rfl, rfl, SqL.of he15, atI_nat (j := 0) rfl, rfl, _, rfl, iteFF (by simpa using hw0) (fin _ sA)⟩
    · rintro σ H6 ⟨z6, z7, z8, z9, z10, t6, rfl, D6, ht6, tk6⟩
      have : (6 : Int).toNat = 6 := rfl
      rw [this] at ht6
      have hI6 := hI.tk tk6
      have mp := merge_plain ok
      refine ⟨.ref I, rfl, I, cs, gs, rfl, hI6, ok, fun H7 v7 s7 hv7 => ⟨.ref I, rfl, I, cs, gs, rfl, (hI6.tk (TupK.of s7)).dp, ok, fun H8 v8 s8 hv8 => ?_⟩⟩
      refine ⟨_, _, _, rfl, same_dp s8 mp.1 hv7, hv8, mp.1, mp.2, fun H9 s9 => ⟨_, rfl, iteF ?_⟩⟩
      have sA := (s7.trans s8).trans s9
      refine ⟨.ref I, rfl, .ref I, dInst cs gs, st, r, rfl, Dq.of_dp (to_dInst _ _) (hI6.tk (TupK.of sA)).dp, sI.1, sI.2.1, sI.2.2, _, rfl, rfl, _, rfl, iteFF (by simp) ?_⟩
      exact ⟨_, _, _, _, _, _, _, _, _, t6, rfl, D6.same sA, by omega⟩
end
end Pv

namespace Pv
open PySem PySem.Spec PyProof.Rows L2
/-! what the top has left -/
theorem all_mk {l : PySem.W.OpenLaw} {w : World} {K : PySem.W.Frag} {h : Heap} {mg : Str → Option Value} {fa fWh fWi fIG fWI fGr fSg fMg fSt fDr fOn fSm fMi fAm fIn fOd fLI fLD fLS fLG fLM fLa : Addr} (X : K.In h) (G : h.Ns mainGlobals mg) (hfa : mg "law" = some (.ref fa))
    {odWh anWh odWi anWi odIG anIG odWI anWI odGr anGr odSg anSg odMg anMg odSt anSt odDr anDr odOn anOn odSm anSm odMi anMi odAm anAm odIn anIn odOd anOd odLI anLI odLD anLD odLS anLS odLG anLG odLM anLM odLa anLa : Option Addr} {slWh slWi slIG slWI slGr slSg slMg slSt slDr slOn slSm slMi slAm slIn slOd slLI slLD slLS slLG slLM slLa : Array (Option Value)}
    {ocWh kVWh dcWh pmWh cdWh ctWh ocWi kVWi dcWi pmWi cdWi ctWi ocIG kVIG dcIG pmIG cdIG ctIG ocWI kVWI dcWI pmWI cdWI ctWI ocGr kVGr dcGr pmGr cdGr ctGr ocSg kVSg dcSg pmSg cdSg ctSg ocMg kVMg dcMg pmMg cdMg ctMg ocSt kVSt dcSt pmSt cdSt ctSt ocDr kVDr dcDr pmDr cdDr ctDr ocOn kVOn dcOn pmOn cdOn ctOn ocSm kVSm dcSm pmSm cdSm ctSm ocMi kVMi dcMi pmMi cdMi ctMi ocAm kVAm dcAm pmAm cdAm ctAm ocIn kVIn dcIn pmIn cdIn ctIn ocOd kVOd dcOd pmOd cdOd ctOd ocLI kVLI dcLI pmLI cdLI ctLI ocLD kVLD dcLD pmLD cdLD ctLD ocLS kVLS dcLS pmLS cdLS ctLS ocLG kVLG dcLG pmLG cdLG ctLG ocLM kVLM dcLM pmLM cdLM ctLM ocLa kVLa dcLa pmLa cdLa ctLa : Value}
    (aWh : PySem.W.nsIn K mainGlobals "is_whole" = some (some (.ref fWh))) (lWh : K.lookup fWh = some ⟨ocWh, odWh, .func (PySem.W.fnOf "is_whole" "is_whole" (defArgs sWhole) (defBody sWhole) (defScope sWhole) .none kVWh dcWh pmWh anWh cdWh ctWh), slWh⟩)
      (cWh : PySem.W.codeIn K cdWh "is_whole" = true) (kWh : PySem.W.keepIn K (.ref fWh) = true)
    (aWi : PySem.W.nsIn K mainGlobals "is_within" = some (some (.ref fWi))) (lWi : K.lookup fWi = some ⟨ocWi, odWi, .func (PySem.W.fnOf "is_within" "is_within" (defArgs sWithin) (defBody sWithin) (defScope sWithin) .none kVWi dcWi pmWi anWi cdWi ctWi), slWi⟩)
      (cWi : PySem.W.codeIn K cdWi "is_within" = true) (kWi : PySem.W.keepIn K (.ref fWi) = true)
    (aIG : PySem.W.nsIn K mainGlobals "is_group" = some (some (.ref fIG))) (lIG : K.lookup fIG = some ⟨ocIG, odIG, .func (PySem.W.fnOf "is_group" "is_group" (defArgs sIG) (defBody sIG) (defScope sIG) .none kVIG dcIG pmIG anIG cdIG ctIG), slIG⟩)
      (cIG : PySem.W.codeIn K cdIG "is_group" = true) (kIG : PySem.W.keepIn K (.ref fIG) = true)
    (aWI : PySem.W.nsIn K mainGlobals "with_item" = some (some (.ref fWI))) (lWI : K.lookup fWI = some ⟨ocWI, odWI, .func (PySem.W.fnOf "with_item" "with_item" (defArgs sWI) (defBody sWI) (defScope sWI) .none kVWI dcWI pmWI anWI cdWI ctWI), slWI⟩)
      (cWI : PySem.W.codeIn K cdWI "with_item" = true) (kWI : PySem.W.keepIn K (.ref fWI) = true)
    (aGr : PySem.W.nsIn K mainGlobals "greatest_count" = some (some (.ref fGr))) (lGr : K.lookup fGr = some ⟨ocGr, odGr, .func (PySem.W.fnOf "greatest_count" "greatest_count" (defArgs sGr) (defBody sGr) (defScope sGr) .none kVGr dcGr pmGr anGr cdGr ctGr), slGr⟩)
      (cGr : PySem.W.codeIn K cdGr "greatest_count" = true) (kGr : PySem.W.keepIn K (.ref fGr) = true)
    (aSg : PySem.W.nsIn K mainGlobals "split_group" = some (some (.ref fSg))) (lSg : K.lookup fSg = some ⟨ocSg, odSg, .func (PySem.W.fnOf "split_group" "split_group" (defArgs sSg) (defBody sSg) (defScope sSg) .none kVSg dcSg pmSg anSg cdSg ctSg), slSg⟩)
      (cSg : PySem.W.codeIn K cdSg "split_group" = true) (kSg : PySem.W.keepIn K (.ref fSg) = true)
    (aMg : PySem.W.nsIn K mainGlobals "merge_groups" = some (some (.ref fMg))) (lMg : K.lookup fMg = some ⟨ocMg, odMg, .func (PySem.W.fnOf "merge_groups" "merge_groups" (defArgs sMg) (defBody sMg) (defScope sMg) .none kVMg dcMg pmMg anMg cdMg ctMg), slMg⟩)
      (cMg : PySem.W.codeIn K cdMg "merge_groups" = true) (kMg : PySem.W.keepIn K (.ref fMg) = true)
    (aSt : PySem.W.nsIn K mainGlobals "_law_deck" = some (some (.ref fSt))) (lSt : K.lookup fSt = some ⟨ocSt, odSt, .func (PySem.W.fnOf "_law_deck" "_law_deck" (defArgs sStart) (defBody sStart) (defScope sStart) .none kVSt dcSt pmSt anSt cdSt ctSt), slSt⟩)
      (cSt : PySem.W.codeIn K cdSt "_law_deck" = true) (kSt : PySem.W.keepIn K (.ref fSt) = true)
    (aDr : PySem.W.nsIn K mainGlobals "_law_next" = some (some (.ref fDr))) (lDr : K.lookup fDr = some ⟨ocDr, odDr, .func (PySem.W.fnOf "_law_next" "_law_next" (defArgs sDraw) (defBody sDraw) (defScope sDraw) .none kVDr dcDr pmDr anDr cdDr ctDr), slDr⟩)
      (cDr : PySem.W.codeIn K cdDr "_law_next" = true) (kDr : PySem.W.keepIn K (.ref fDr) = true)
    (aOn : PySem.W.nsIn K mainGlobals "_law_one" = some (some (.ref fOn))) (lOn : K.lookup fOn = some ⟨ocOn, odOn, .func (PySem.W.fnOf "_law_one" "_law_one" (defArgs sOne) (defBody sOne) (defScope sOne) .none kVOn dcOn pmOn anOn cdOn ctOn), slOn⟩)
      (cOn : PySem.W.codeIn K cdOn "_law_one" = true) (kOn : PySem.W.keepIn K (.ref fOn) = true)
    (aSm : PySem.W.nsIn K mainGlobals "_law_same" = some (some (.ref fSm))) (lSm : K.lookup fSm = some ⟨ocSm, odSm, .func (PySem.W.fnOf "_law_same" "_law_same" (defArgs sSame) (defBody sSame) (defScope sSame) .none kVSm dcSm pmSm anSm cdSm ctSm), slSm⟩)
      (cSm : PySem.W.codeIn K cdSm "_law_same" = true) (kSm : PySem.W.keepIn K (.ref fSm) = true)
    (aMi : PySem.W.nsIn K mainGlobals "_law_mixed" = some (some (.ref fMi))) (lMi : K.lookup fMi = some ⟨ocMi, odMi, .func (PySem.W.fnOf "_law_mixed" "_law_mixed" (defArgs sMix) (defBody sMix) (defScope sMix) .none kVMi dcMi pmMi anMi cdMi ctMi), slMi⟩)
      (cMi : PySem.W.codeIn K cdMi "_law_mixed" = true) (kMi : PySem.W.keepIn K (.ref fMi) = true)
    (aAm : PySem.W.nsIn K mainGlobals "_law_amount" = some (some (.ref fAm))) (lAm : K.lookup fAm = some ⟨ocAm, odAm, .func (PySem.W.fnOf "_law_amount" "_law_amount" (defArgs sAmo) (defBody sAmo) (defScope sAmo) .none kVAm dcAm pmAm anAm cdAm ctAm), slAm⟩)
      (cAm : PySem.W.codeIn K cdAm "_law_amount" = true) (kAm : PySem.W.keepIn K (.ref fAm) = true)
    (aIn : PySem.W.nsIn K mainGlobals "_law_instance" = some (some (.ref fIn))) (lIn : K.lookup fIn = some ⟨ocIn, odIn, .func (PySem.W.fnOf "_law_instance" "_law_instance" (defArgs sInst) (defBody sInst) (defScope sInst) .none kVIn dcIn pmIn anIn cdIn ctIn), slIn⟩)
      (cIn : PySem.W.codeIn K cdIn "_law_instance" = true) (kIn : PySem.W.keepIn K (.ref fIn) = true)
    (aOd : PySem.W.nsIn K mainGlobals "_law_odd" = some (some (.ref fOd))) (lOd : K.lookup fOd = some ⟨ocOd, odOd, .func (PySem.W.fnOf "_law_odd" "_law_odd" (defArgs sOdd) (defBody sOdd) (defScope sOdd) .none kVOd dcOd pmOd anOd cdOd ctOd), slOd⟩)
      (cOd : PySem.W.codeIn K cdOd "_law_odd" = true) (kOd : PySem.W.keepIn K (.ref fOd) = true)
    (aLI : PySem.W.nsIn K mainGlobals "_law_integer" = some (some (.ref fLI))) (lLI : K.lookup fLI = some ⟨ocLI, odLI, .func (PySem.W.fnOf "_law_integer" "_law_integer" (defArgs sInteg) (defBody sInteg) (defScope sInteg) .none kVLI dcLI pmLI anLI cdLI ctLI), slLI⟩)
      (cLI : PySem.W.codeIn K cdLI "_law_integer" = true) (kLI : PySem.W.keepIn K (.ref fLI) = true)
    (aLD : PySem.W.nsIn K mainGlobals "_law_split_due" = some (some (.ref fLD))) (lLD : K.lookup fLD = some ⟨ocLD, odLD, .func (PySem.W.fnOf "_law_split_due" "_law_split_due" (defArgs sLD) (defBody sLD) (defScope sLD) .none kVLD dcLD pmLD anLD cdLD ctLD), slLD⟩)
      (cLD : PySem.W.codeIn K cdLD "_law_split_due" = true) (kLD : PySem.W.keepIn K (.ref fLD) = true)
    (aLS : PySem.W.nsIn K mainGlobals "_law_split" = some (some (.ref fLS))) (lLS : K.lookup fLS = some ⟨ocLS, odLS, .func (PySem.W.fnOf "_law_split" "_law_split" (defArgs sLS) (defBody sLS) (defScope sLS) .none kVLS dcLS pmLS anLS cdLS ctLS), slLS⟩)
      (cLS : PySem.W.codeIn K cdLS "_law_split" = true) (kLS : PySem.W.keepIn K (.ref fLS) = true)
    (aLG : PySem.W.nsIn K mainGlobals "_law_merged" = some (some (.ref fLG))) (lLG : K.lookup fLG = some ⟨ocLG, odLG, .func (PySem.W.fnOf "_law_merged" "_law_merged" (defArgs sLG) (defBody sLG) (defScope sLG) .none kVLG dcLG pmLG anLG cdLG ctLG), slLG⟩)
      (cLG : PySem.W.codeIn K cdLG "_law_merged" = true) (kLG : PySem.W.keepIn K (.ref fLG) = true)
    (aLM : PySem.W.nsIn K mainGlobals "_law_merged_due" = some (some (.ref fLM))) (lLM : K.lookup fLM = some ⟨ocLM, odLM, .func (PySem.W.fnOf "_law_merged_due" "_law_merged_due" (defArgs sLM) (defBody sLM) (defScope sLM) .none kVLM dcLM pmLM anLM cdLM ctLM), slLM⟩)
      (cLM : PySem.W.codeIn K cdLM "_law_merged_due" = true) (kLM : PySem.W.keepIn K (.ref fLM) = true)
    (aLa : PySem.W.nsIn K mainGlobals "law" = some (some (.ref fLa))) (lLa : K.lookup fLa = some ⟨ocLa, odLa, .func (PySem.W.fnOf "law" "law" (defArgs sLa) (defBody sLa) (defScope sLa) .none kVLa dcLa pmLa anLa cdLa ctLa), slLa⟩)
      (cLa : PySem.W.codeIn K cdLa "law" = true) (kLa : PySem.W.keepIn K (.ref fLa) = true)
    (z0 : PySem.W.nsIn K mainGlobals "isinstance" = some none)
    (z1 : PySem.W.nsIn K mainGlobals "int" = some none)
    (z2 : PySem.W.nsIn K mainGlobals "bool" = some none)
    (z3 : PySem.W.nsIn K mainGlobals "str" = some none)
    (z4 : PySem.W.nsIn K mainGlobals "tuple" = some none)
    (z5 : PySem.W.nsIn K mainGlobals "list" = some none)
    (z6 : PySem.W.nsIn K mainGlobals "len" = some none)
    (z7 : PySem.W.nsIn K mainGlobals "sum" = some none)
    (z8 : PySem.W.nsIn K mainGlobals "abs" = some none)
    (z9 : PySem.W.nsIn K mainGlobals "min" = some none)
    (z10 : PySem.W.nsIn K mainGlobals "max" = some none)
    (z11 : PySem.W.nsIn K mainGlobals "range" = some none)
    (z12 : PySem.W.nsIn K mainGlobals "repr" = some none)
    (z13 : PySem.W.nsIn K mainGlobals "ValueError" = some none)
    (z14 : PySem.W.nsIn K mainGlobals "LookupError" = some none)
    {uBIG : Value} (y0 : PySem.W.nsIn K mainGlobals "BIG" = some (some uBIG)) (rBIG : RelV (.int 1000000000000) uBIG)
    {uGROUPS : Value} (y1 : PySem.W.nsIn K mainGlobals "GROUPS" = some (some uGROUPS)) (rGROUPS : RelV (.int 10) uGROUPS)
    {cVE : Addr} (aCVE : PySem.W.nsIn K mainGlobals "VoteError" = some (some (.ref cVE))) (iCVE : isCB K cVE = true)
    {cTG : Addr} (aCTG : PySem.W.nsIn K mainGlobals "TooGreat" = some (some (.ref cTG))) (iCTG : isCB K cTG = true)
    {cTM : Addr} (aCTM : PySem.W.nsIn K mainGlobals "TooMany" = some (some (.ref cTM))) (iCTM : isCB K cTM = true)
    {cBN : Addr} (aCBN : PySem.W.nsIn K mainGlobals "BadNumber" = some (some (.ref cBN))) (iCBN : isCB K cBN = true)
    {cNG : Addr} (aCNG : PySem.W.nsIn K mainGlobals "NoGroup" = some (some (.ref cNG))) (iCNG : isCB K cNG = true)
    {nmBN qnBN : Str} {NBN fiBN : Addr} {bsBN bmBN subBN : List Value} {snBN : List Str} {abBN : Bool} {colBN : Option Bool} {ddBN odiBN aniBN : Option Addr} {kaBN kbBN kcBN kdBN keBN : Option Value} {sliBN : Array (Option Value)} {ociBN kViBN dciBN pmiBN cdiBN ctiBN : Value}
    (lXBN : K.lookup cBN = some (excClassObj nmBN qnBN cBN NBN bsBN bmBN true snBN subBN abBN colBN ddBN kaBN kbBN kcBN kdBN keBN "ValueError.__new__")) (vXBN : PySem.HandSPX.refsVE bmBN = true)
    (nXBN : PySem.W.findIn K (.ref cBN) "__init__" = some (some (.ref fiBN))) (lIBN : K.lookup fiBN = some ⟨ociBN, odiBN, .func (PySem.W.fnOf "__init__" "BadNumber.__init__" (defArgs siBN) (defBody siBN) (defScope siBN) .none kViBN dciBN pmiBN aniBN cdiBN ctiBN), sliBN⟩) (cIBN : PySem.W.codeIn K cdiBN "BadNumber.__init__" = true) (kIBN : PySem.W.keepIn K (.ref fiBN) = true) (bXBN : xf1B K cBN fiBN "value" = true)
    {nmTM qnTM : Str} {NTM fiTM : Addr} {bsTM bmTM subTM : List Value} {snTM : List Str} {abTM : Bool} {colTM : Option Bool} {ddTM odiTM aniTM : Option Addr} {kaTM kbTM kcTM kdTM keTM : Option Value} {sliTM : Array (Option Value)} {ociTM kViTM dciTM pmiTM cdiTM ctiTM : Value}
    (lXTM : K.lookup cTM = some (excClassObj nmTM qnTM cTM NTM bsTM bmTM true snTM subTM abTM colTM ddTM kaTM kbTM kcTM kdTM keTM "ValueError.__new__")) (vXTM : PySem.HandSPX.refsVE bmTM = true)
    (nXTM : PySem.W.findIn K (.ref cTM) "__init__" = some (some (.ref fiTM))) (lITM : K.lookup fiTM = some ⟨ociTM, odiTM, .func (PySem.W.fnOf "__init__" "TooMany.__init__" (defArgs siTM) (defBody siTM) (defScope siTM) .none kViTM dciTM pmiTM aniTM cdiTM ctiTM), sliTM⟩) (cITM : PySem.W.codeIn K cdiTM "TooMany.__init__" = true) (kITM : PySem.W.keepIn K (.ref fiTM) = true) (bXTM : xf1B K cTM fiTM "limit" = true)
    {nmNG qnNG : Str} {NNG fiNG : Addr} {bsNG subNG : List Value} {snNG : List Str} {abNG : Bool} {colNG : Option Bool} {ddNG odiNG aniNG : Option Addr} {kaNG kbNG kcNG kdNG keNG : Option Value} {sliNG : Array (Option Value)} {ociNG kViNG dciNG pmiNG cdiNG ctiNG : Value}
    (lXNG : K.lookup cNG = some (excClassObj nmNG qnNG cNG NNG bsNG LEbm true snNG subNG abNG colNG ddNG kaNG kbNG kcNG kdNG keNG "LookupError.__new__"))
    (nXNG : PySem.W.findIn K (.ref cNG) "__init__" = some (some (.ref fiNG))) (lING : K.lookup fiNG = some ⟨ociNG, odiNG, .func (PySem.W.fnOf "__init__" "NoGroup.__init__" (defArgs siNG) (defBody siNG) (defScope siNG) .none kViNG dciNG pmiNG aniNG cdiNG ctiNG), sliNG⟩) (cING : PySem.W.codeIn K cdiNG "NoGroup.__init__" = true) (kING : PySem.W.keepIn K (.ref fiNG) = true) (bXNG : xf1B K cNG fiNG "value" = true)
    (xaNGNG : PySem.W.exmOne K (.ref cNG) (.ref cNG) = some true)
    (xaBNNG : PySem.W.exmOne K (.ref cBN) (.ref cNG) = some false)
    (xaBNBN : PySem.W.exmOne K (.ref cBN) (.ref cBN) = some true)
    (xaTMNG : PySem.W.exmOne K (.ref cTM) (.ref cNG) = some false)
    (xaTMBN : PySem.W.exmOne K (.ref cTM) (.ref cBN) = some false)
    (xaTMTM : PySem.W.exmOne K (.ref cTM) (.ref cTM) = some true)
    (kaNG : PySem.W.kitOne K (.ref cNG) (.type "LookupError") = some true)
    (kbNG : PySem.W.kitOne K (.ref cNG) (.type "ValueError") = some false)
    (kaBN : PySem.W.kitOne K (.ref cBN) (.ref cVE) = some true)
    (kbBN : PySem.W.kitAny K (.ref cBN) [.ref cTM, .ref cTG] = some false)
    (kaTM : PySem.W.kitOne K (.ref cTM) (.ref cVE) = some true)
    (kbTM : PySem.W.kitOne K (.ref cTM) (.ref cTG) = some false)
    (xTG : PySem.W.excIn K cTG VEbm "ValueError.__new__" = true)
    (x1 : PySem.W.exmOne K (.ref cTG) (.ref cTG) = some true)
    (x2 : PySem.W.kitOne K (.ref cTG) (.ref cVE) = some true)
    (x4 : PySem.W.kitAny K (.ref cTG) [.ref cTM, .ref cBN] = some false)
    : ∃ fd : FuncData, (∀ (s : Shared) (v : Value), BindsTo s fd ⟨[v], []⟩ [("_law_script", v)]) ∧ ∀ base : Heap, K.In base → base.Ns mainGlobals mg → FnG l.prog w K mg base 7 fa fd ["_law_script"] (spLaw K) := by
  have e := hfa.symm.trans (PySem.W.mg_of X G aLa)
  cases e
  have FWh := fun_mk (st := sWhole) lWh cWh kWh
  have bWh := FWh.binds (ps := ["value"]) fun _ _ _ _ _ _ us hl => match us, hl with | [_], _ => rfl
  have gWh := PySem.W.mg_of X G aWh
  have FWi := fun_mk (st := sWithin) lWi cWi kWi
  have bWi := FWi.binds (ps := ["value", "least", "most"]) fun _ _ _ _ _ _ us hl => match us, hl with | [_, _, _], _ => rfl
  have gWi := PySem.W.mg_of X G aWi
  have FIG := fun_mk (st := sIG) lIG cIG kIG
  have bIG := FIG.binds (ps := ["instance", "value"]) fun _ _ _ _ _ _ us hl => match us, hl with | [_, _], _ => rfl
  have gIG := PySem.W.mg_of X G aIG
  have FWI := fun_mk (st := sWI) lWI cWI kWI
  have bWI := FWI.binds (ps := ["items", "at", "item"]) fun _ _ _ _ _ _ us hl => match us, hl with | [_, _, _], _ => rfl
  have gWI := PySem.W.mg_of X G aWI
  have FGr := fun_mk (st := sGr) lGr cGr kGr
  have bGr := FGr.binds (ps := ["groups"]) fun _ _ _ _ _ _ us hl => match us, hl with | [_], _ => rfl
  have gGr := PySem.W.mg_of X G aGr
  have FSg := fun_mk (st := sSg) lSg cSg kSg
  have bSg := FSg.binds (ps := ["instance", "group", "count"]) fun _ _ _ _ _ _ us hl => match us, hl with | [_, _, _], _ => rfl
  have gSg := PySem.W.mg_of X G aSg
  have FMg := fun_mk (st := sMg) lMg cMg kMg
  have bMg := FMg.binds (ps := ["instance"]) fun _ _ _ _ _ _ us hl => match us, hl with | [_], _ => rfl
  have gMg := PySem.W.mg_of X G aMg
  have FSt := fun_mk (st := sStart) lSt cSt kSt
  have bSt := FSt.binds (ps := ["_law_script"]) fun _ _ _ _ _ _ us hl => match us, hl with | [_], _ => rfl
  have gSt := PySem.W.mg_of X G aSt
  have FDr := fun_mk (st := sDraw) lDr cDr kDr
  have bDr := FDr.binds (ps := ["_law_deck_here", "_law_many"]) fun _ _ _ _ _ _ us hl => match us, hl with | [_, _], _ => rfl
  have gDr := PySem.W.mg_of X G aDr
  have FOn := fun_mk (st := sOne) lOn cOn kOn
  have bOn := FOn.binds (ps := ["_law_deck_here", "_law_items"]) fun _ _ _ _ _ _ us hl => match us, hl with | [_, _], _ => rfl
  have gOn := PySem.W.mg_of X G aOn
  have FSm := fun_mk (st := sSame) lSm cSm kSm
  have bSm := FSm.binds (ps := ["_law_found", "_law_due"]) fun _ _ _ _ _ _ us hl => match us, hl with | [_, _], _ => rfl
  have gSm := PySem.W.mg_of X G aSm
  have FMi := fun_mk (st := sMix) lMi cMi kMi
  have bMi := FMi.binds (ps := ["_law_deck_here", "_law_items"]) fun _ _ _ _ _ _ us hl => match us, hl with | [_, _], _ => rfl
  have gMi := PySem.W.mg_of X G aMi
  have FAm := fun_mk (st := sAmo) lAm cAm kAm
  have bAm := FAm.binds (ps := ["_law_deck_here", "_law_far"]) fun _ _ _ _ _ _ us hl => match us, hl with | [_, _], _ => rfl
  have gAm := PySem.W.mg_of X G aAm
  have FIn := fun_mk (st := sInst) lIn cIn kIn
  have bIn := FIn.binds (ps := ["_law_deck_here", "_law_posts", "_law_groups", "_law_far"]) fun _ _ _ _ _ _ us hl => match us, hl with | [_, _, _, _], _ => rfl
  have gIn := PySem.W.mg_of X G aIn
  have FOd := fun_mk (st := sOdd) lOd cOd kOd
  have bOd := FOd.binds (ps := ["_law_deck_here"]) fun _ _ _ _ _ _ us hl => match us, hl with | [_], _ => rfl
  have gOd := PySem.W.mg_of X G aOd
  have FLI := fun_mk (st := sInteg) lLI cLI kLI
  have bLI := FLI.binds (ps := ["_law_value", "_law_low", "_law_high"]) fun _ _ _ _ _ _ us hl => match us, hl with | [_, _, _], _ => rfl
  have gLI := PySem.W.mg_of X G aLI
  have FLD := fun_mk (st := sLD) lLD cLD kLD
  have bLD := FLD.binds (ps := ["_law_instance_here", "_law_group", "_law_count"]) fun _ _ _ _ _ _ us hl => match us, hl with | [_, _, _], _ => rfl
  have gLD := PySem.W.mg_of X G aLD
  have FLS := fun_mk (st := sLS) lLS cLS kLS
  have bLS := FLS.binds (ps := ["_law_instance_here", "_law_group", "_law_count"]) fun _ _ _ _ _ _ us hl => match us, hl with | [_, _, _], _ => rfl
  have gLS := PySem.W.mg_of X G aLS
  have FLG := fun_mk (st := sLG) lLG cLG kLG
  have bLG := FLG.binds (ps := ["_law_instance_here"]) fun _ _ _ _ _ _ us hl => match us, hl with | [_], _ => rfl
  have gLG := PySem.W.mg_of X G aLG
  have FLM := fun_mk (st := sLM) lLM cLM kLM
  have bLM := FLM.binds (ps := ["_law_instance_here"]) fun _ _ _ _ _ _ us hl => match us, hl with | [_], _ => rfl
  have gLM := PySem.W.mg_of X G aLM
  have FLa := fun_mk (st := sLa) lLa cLa kLa
  have m_isinstance := PySem.W.mg_none_of X G z0
  have m_int := PySem.W.mg_none_of X G z1
  have m_bool := PySem.W.mg_none_of X G z2
  have m_str := PySem.W.mg_none_of X G z3
  have m_tuple := PySem.W.mg_none_of X G z4
  have m_list := PySem.W.mg_none_of X G z5
  have m_len := PySem.W.mg_none_of X G z6
  have m_sum := PySem.W.mg_none_of X G z7
  have m_abs := PySem.W.mg_none_of X G z8
  have m_min := PySem.W.mg_none_of X G z9
  have m_max := PySem.W.mg_none_of X G z10
  have m_range := PySem.W.mg_none_of X G z11
  have m_repr := PySem.W.mg_none_of X G z12
  have m_ValueError := PySem.W.mg_none_of X G z13
  have m_LookupError := PySem.W.mg_none_of X G z14
  have vBIG := PySem.W.mg_of X G y0
  have vGROUPS := PySem.W.mg_of X G y1
  have gVE := PySem.W.mg_of X G aCVE
  have IVE := isCB_ok iCVE
  have gTG := PySem.W.mg_of X G aCTG
  have ITG := isCB_ok iCTG
  have gTM := PySem.W.mg_of X G aCTM
  have ITM := isCB_ok iCTM
  have gBN := PySem.W.mg_of X G aCBN
  have IBN := isCB_ok iCBN
  have gNG := PySem.W.mg_of X G aCNG
  have ING := isCB_ok iCNG
  have XBN := xf1B_ok bXBN ⟨_, _, _, _, _, _, _, _, _, _, _, _, _, _, _, lXBN, vXBN⟩
  have FiBN := fun_mk (st := siBN) lIBN cIBN kIBN
  have biBN := FiBN.binds (ps := ["self", "value"]) fun _ _ _ _ _ _ us hl => match us, hl with | [_, _], _ => rfl
  have XTM := xf1B_ok bXTM ⟨_, _, _, _, _, _, _, _, _, _, _, _, _, _, _, lXTM, vXTM⟩
  have FiTM := fun_mk (st := siTM) lITM cITM kITM
  have biTM := FiTM.binds (ps := ["self", "limit"]) fun _ _ _ _ _ _ us hl => match us, hl with | [_, _], _ => rfl
  have XNG := xl1B_ok bXNG ⟨_, _, _, _, _, _, _, _, _, _, _, _, _, _, lXNG⟩
  have FiNG := fun_mk (st := siNG) lING cING kING
  have biNG := FiNG.binds (ps := ["self", "value"]) fun _ _ _ _ _ _ us hl => match us, hl with | [_, _], _ => rfl
  refine ⟨PySem.W.fnOf "law" "law" (defArgs sLa) (defBody sLa) (defScope sLa) .none kVLa dcLa pmLa anLa cdLa ctLa, fun s v => .of_eq rfl, fun base _ _ => ?_⟩
  have GiBN := ok_iBN (P := l.prog) (w := w) (base := base) (mg := mg) FiBN XBN
  have GiTM := ok_iTM (P := l.prog) (w := w) (base := base) (mg := mg) FiTM XTM
  have GiNG := ok_iNG (P := l.prog) (w := w) (base := base) (mg := mg) FiNG XNG
  have GWh := ok_whole (P := l.prog) (w := w) (base := base) (mg := mg) (k := 0) FWh m_isinstance m_int m_bool
  have GWi := ok_within (P := l.prog) (w := w) (base := base) (mg := mg) (k := 0) FWi FWh bWh gWh GWh
  have GIG := ok_IG (P := l.prog) (w := w) (base := base) (mg := mg) FIG  FWi bWi gWi GWi   m_len
  have GWI := ok_WI (P := l.prog) (w := w) (base := base) (mg := mg) FWI     
  have GGr := ok_Gr (P := l.prog) (w := w) (base := base) (mg := mg) FGr     m_max
  have GSg := ok_Sg (P := l.prog) (w := w) (base := base) (mg := mg) FSg  FIG bIG gIG GIG FWi bWi gWi GWi FWI bWI gWI GWI gNG XNG GiNG biNG gBN XBN GiBN biBN gTM XTM GiTM biTM vGROUPS rGROUPS m_len
  have GMg := ok_Mg (P := l.prog) (w := w) (base := base) (mg := mg) FMg  FGr bGr gGr GGr gTG ITG xTG vBIG rBIG m_tuple
  have GSt := ok_start (P := l.prog) (w := w) (base := base) (mg := mg) (k := 0) FSt m_abs m_int m_len
  have GDr := ok_draw (P := l.prog) (w := w) (base := base) (mg := mg) (k := 0) FDr m_len
  have GOn := ok_one (P := l.prog) (w := w) (base := base) (mg := mg) (k := 0) FOn FDr bDr gDr GDr m_len
  have GMi := ok_mix (P := l.prog) (w := w) (base := base) (mg := mg) (k := 0) FMi FDr bDr gDr GDr m_list m_len
  have GAm := ok_amo (P := l.prog) (w := w) (base := base) (mg := mg) (k := 0) FAm FDr bDr gDr GDr FOn bOn gOn GOn
  have GIn := ok_inst (P := l.prog) (w := w) (base := base) (mg := mg) (k := 0) FIn FDr bDr gDr GDr FOn bOn gOn GOn FMi bMi gMi GMi FAm bAm gAm GAm m_tuple m_range m_list m_sum m_max m_min
  have GSm := ok_same (P := l.prog) (w := w) (base := base) (mg := mg) FSm bSm gSm m_isinstance m_list m_tuple m_len m_range m_str m_int m_bool 6
  have GOd := ok_odd (P := l.prog) (w := w) (base := base) (mg := mg) (k := 0) FOd FDr bDr gDr GDr
  have GLI := ok_integ (P := l.prog) (w := w) (base := base) (mg := mg) (k := 0) FLI m_isinstance m_int m_bool
  have GLD := ok_LD (P := l.prog) (w := w) (base := base) (mg := mg) FLD  FLI bLI gLI GLI   m_len m_repr
  have GLM := ok_LM (P := l.prog) (w := w) (base := base) (mg := mg) FLM     m_sum m_max m_tuple
  have GLS := ok_LS (P := l.prog) (w := w) (base := base) (mg := mg) FLS FSg bSg gSg GSg gVE gTG gTM gBN gNG ING IBN ITM XNG XBN XTM xaNGNG xaBNNG xaBNBN xaTMNG xaTMBN xaTMTM kaNG kbNG kaBN kbBN kaTM kbTM m_isinstance m_repr m_ValueError m_LookupError
  have GLG := ok_LG (P := l.prog) (w := w) (base := base) (mg := mg) FLG FMg bMg gMg GMg gTG gVE gTM gBN ITG x1 x2 x4 m_isinstance
  exact ok_La (P := l.prog) (w := w) (base := base) FLa  FSt bSt gSt GSt FDr bDr gDr GDr FIn bIn gIn GIn FOd bOd gOd GOd FOn bOn gOn GOn FLD bLD gLD GLD FLS bLS gLS GLS FSm bSm gSm GSm FLG bLG gLG GLG FLM bLM gLM GLM   m_range m_repr m_len
end Pv

open PySem PySem.W PyProof.Rows
set_option maxRecDepth 100000 in
set_option maxHeartbeats 0 in
theorem PySem.Challenge.cw_postvote_k53_groups_split_and_merged_holds : PySem.Challenge.rw_postvote_k53_groups_split_and_merged.Holds := by
  w_on; o_law; k_head; (case hw => w_witness2)
  k_fill
  refine Pv.walkG (l := PySem.Challenge.rw_postvote_k53_groups_split_and_merged) (n := 63) (k := 7) (x := "_law_script") (sp := fun w => Pv.spLaw _) rfl (by decide) rfl ⟨rfl, by decide, by decide⟩ (fun w h Y => PySem.W.kIn_of Y) ?F (fun _ _ a ns hl _ _ hS => ⟨a, ns, rfl, hS, hl, fun _ => rfl⟩)
  case F =>
    intro w mg fa h KX G hmg
    refine' Pv.all_mk KX G hmg ?aWh ?lWh ?cWh ?kWh ?aWi ?lWi ?cWi ?kWi ?aIG ?lIG ?cIG ?kIG ?aWI ?lWI ?cWI ?kWI ?aGr ?lGr ?cGr ?kGr ?aSg ?lSg ?cSg ?kSg ?aMg ?lMg ?cMg ?kMg ?aSt ?lSt ?cSt ?kSt ?aDr ?lDr ?cDr ?kDr ?aOn ?lOn ?cOn ?kOn ?aSm ?lSm ?cSm ?kSm ?aMi ?lMi ?cMi ?kMi ?aAm ?lAm ?cAm ?kAm ?aIn ?lIn ?cIn ?kIn ?aOd ?lOd ?cOd ?kOd ?aLI ?lLI ?cLI ?kLI ?aLD ?lLD ?cLD ?kLD ?aLS ?lLS ?cLS ?kLS ?aLG ?lLG ?cLG ?kLG ?aLM ?lLM ?cLM ?kLM ?aLa ?lLa ?cLa ?kLa ?z0 ?z1 ?z2 ?z3 ?z4 ?z5 ?z6 ?z7 ?z8 ?z9 ?z10 ?z11 ?z12 ?z13 ?z14 ?y0 ?rBIG ?y1 ?rGROUPS ?aCVE ?iCVE ?aCTG ?iCTG ?aCTM ?iCTM ?aCBN ?iCBN ?aCNG ?iCNG ?lXBN ?vXBN ?nXBN ?lIBN ?cIBN ?kIBN ?bXBN ?lXTM ?vXTM ?nXTM ?lITM ?cITM ?kITM ?bXTM ?lXNG ?nXNG ?lING ?cING ?kING ?bXNG ?xaNGNG ?xaBNNG ?xaBNBN ?xaTMNG ?xaTMBN ?xaTMTM ?kaNG ?kbNG ?kaBN ?kbBN ?kaTM ?kbTM ?xTG ?x1 ?x2 ?x4
    (case aWh => k_is); (case lWh => k_is); (case cWh => k_is); (case kWh => k_is); (case aWi => k_is); (case lWi => k_is); (case cWi => k_is); (case kWi => k_is); (case aIG => k_is); (case lIG => k_is); (case cIG => k_is); (case kIG => k_is); (case aWI => k_is); (case lWI => k_is); (case cWI => k_is); (case kWI => k_is); (case aGr => k_is); (case lGr => k_is); (case cGr => k_is); (case kGr => k_is); (case aSg => k_is); (case lSg => k_is); (case cSg => k_is); (case kSg => k_is); (case aMg => k_is); (case lMg => k_is); (case cMg => k_is); (case kMg => k_is); (case aSt => k_is); (case lSt => k_is); (case cSt => k_is); (case kSt => k_is); (case aDr => k_is); (case lDr => k_is); (case cDr => k_is); (case kDr => k_is); (case aOn => k_is); (case lOn => k_is); (case cOn => k_is); (case kOn => k_is); (case aSm => k_is); (case lSm => k_is); (case cSm => k_is); (case kSm => k_is); (case aMi => k_is); (case lMi => k_is); (case cMi => k_is); (case kMi => k_is); (case aAm => k_is); (case lAm => k_is); (case cAm => k_is); (case kAm => k_is); (case aIn => k_is); (case lIn => k_is); (case cIn => k_is); (case kIn => k_is); (case aOd => k_is); (case lOd => k_is); (case cOd => k_is); (case kOd => k_is); (case aLI => k_is); (case lLI => k_is); (case cLI => k_is); (case kLI => k_is); (case aLD => k_is); (case lLD => k_is); (case cLD => k_is); (case kLD => k_is); (case aLS => k_is); (case lLS => k_is); (case cLS => k_is); (case kLS => k_is); (case aLG => k_is); (case lLG => k_is); (case cLG => k_is); (case kLG => k_is); (case aLM => k_is); (case lLM => k_is); (case cLM => k_is); (case kLM => k_is); (case aLa => k_is); (case lLa => k_is); (case cLa => k_is); (case kLa => k_is); (case z0 => k_is); (case z1 => k_is); (case z2 => k_is); (case z3 => k_is); (case z4 => k_is); (case z5 => k_is); (case z6 => k_is); (case z7 => k_is); (case z8 => k_is); (case z9 => k_is); (case z10 => k_is); (case z11 => k_is); (case z12 => k_is); (case z13 => k_is); (case z14 => k_is); (case aCVE => k_is); (case iCVE => kernel_rfl); (case aCTG => k_is); (case iCTG => kernel_rfl); (case aCTM => k_is); (case iCTM => kernel_rfl); (case aCBN => k_is); (case iCBN => kernel_rfl); (case aCNG => k_is); (case iCNG => kernel_rfl); (case y0 => k_is); (case y1 => k_is); (case lXBN => k_is); (case vXBN => kernel_rfl); (case nXBN => k_is); (case lIBN => k_is); (case cIBN => k_is); (case kIBN => k_is); (case bXBN => kernel_rfl); (case lXTM => k_is); (case vXTM => kernel_rfl); (case nXTM => k_is); (case lITM => k_is); (case cITM => k_is); (case kITM => k_is); (case bXTM => kernel_rfl); (case lXNG => k_is); (case nXNG => k_is); (case lING => k_is); (case cING => k_is); (case kING => k_is); (case bXNG => kernel_rfl); (case xaNGNG => kernel_rfl); (case xaBNNG => kernel_rfl); (case xaBNBN => kernel_rfl); (case xaTMNG => kernel_rfl); (case xaTMBN => kernel_rfl); (case xaTMTM => kernel_rfl); (case kaNG => kernel_rfl); (case kbNG => kernel_rfl); (case kaBN => kernel_rfl); (case kbBN => kernel_rfl); (case kaTM => kernel_rfl); (case kbTM => kernel_rfl); (case xTG => kernel_rfl); (case x1 => kernel_rfl); (case x2 => kernel_rfl); (case x4 => kernel_rfl); (case rBIG => exact ⟨_, rfl⟩); (case rGROUPS => exact ⟨_, rfl⟩)
