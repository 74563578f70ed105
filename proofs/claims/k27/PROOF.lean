import PyProof.Rows.All
import Wide.All
import OpenK.AllK
import Wide.FinOn
import HandS.ForMost
import HandS.Wide
import HandS.IsInst
import HandS.TupAny
import HandS.Conv
import KE.GoesMore
import KE.GoesEnum
import HandS.ForExc
import HandS.ExcInit
import HandS.ExcField
import HandS.TupMul
import HandS.Text
import HandS.FStr
import PyProof.StrOps2
import HandS.Defaults
import HandS.Walk
import PySem.Challenge.RW_stepsound_k27_whole_texts_of_rows
set_option Elab.async false
set_option linter.all false
set_option maxRecDepth 100000
namespace My
open PySem PySem.Spec PyProof.Rows L2

/-! ### heaps -/
theorem same_new {H : Hp} {p : Addr} {o : HO} (h : H p = none) : Same H (upd H p o) := fun b x e => by
  rw [upd_ne (ne_of_none e h)]
  exact e
theorem same_tup {K : PySem.W.Frag} {H H' : Hp} {a : Addr} {xs : List V} (e : Same H H') (h : SqT K H a xs) : SqT K H' a xs := by
  rcases h with (h | ⟨o, h⟩) | h
  · exact .inl (.inl (e _ _ h))
  · exact .inl (.inr ⟨o, e _ _ h⟩)
  · exact .inr h
/-- every tuple stands -/
def TupS (H H' : Hp) : Prop := ∀ b xs, H b = some (.tup xs) → H' b = some (.tup xs)
theorem Same.tupS {H H' : Hp} (e : Same H H') : TupS H H' := fun b xs h => e b _ h

/-! ### rules within a comprehension: the written part by its own name -/
theorem ix_tupK {X : Cx} {K : PySem.W.Frag} (h : X.K = K := by rfl) : IxR X (rIxT K) := by
  subst h
  exact ix_tup
theorem ix_listK {X : Cx} {K : PySem.W.Frag} (h : X.K = K := by rfl) : IxR X (rIxL K) := by
  subst h
  exact ix_list
def rLen (K : PySem.W.Frag) : List V → Hp → VK → Prop := fun xs H Q => ∃ p ys, xs = [.ref p] ∧ (SqL K H p ys ∨ SqT K H p ys) ∧ Q (.int ys.length) H
theorem call_lenK {X : Cx} {K : PySem.W.Frag} (h : X.K = K := by rfl) : CallR X (.builtin "len") (rLen K) := by
  subst h
  exact call_len_seq
/-! ### the drawer of a law: a dict of two lists and a number -/
def dd (c l : Addr) (k : Int) : List (Key × V) := [(.inr "cells", .ref c), (.inr "left", .ref l), (.inr "at", .int k)]
theorem nCL : ¬ ((Sum.inr ("cells" : Str) : Key) = Sum.inr ("left" : Str)) := by decide +kernel
theorem nCA : ¬ ((Sum.inr ("cells" : Str) : Key) = Sum.inr ("at" : Str)) := by decide +kernel
theorem nLC : ¬ ((Sum.inr ("left" : Str) : Key) = Sum.inr ("cells" : Str)) := by decide +kernel
theorem nLA : ¬ ((Sum.inr ("left" : Str) : Key) = Sum.inr ("at" : Str)) := by decide +kernel
theorem nAC : ¬ ((Sum.inr ("at" : Str) : Key) = Sum.inr ("cells" : Str)) := by decide +kernel
theorem nAL : ¬ ((Sum.inr ("at" : Str) : Key) = Sum.inr ("left" : Str)) := by decide +kernel
theorem dd_c (c l : Addr) (k : Int) : valV (dd c l k) (.inr "cells") = some (.ref c) := valV_pos rfl
theorem dd_l (c l : Addr) (k : Int) : valV (dd c l k) (.inr "left") = some (.ref l) := (valV_neg nCL).trans (valV_pos rfl)
theorem dd_a (c l : Addr) (k : Int) : valV (dd c l k) (.inr "at") = some (.int k) := (valV_neg nCA).trans ((valV_neg nLA).trans (valV_pos rfl))
theorem sCL : ¬ (("cells" : Str) = "left") := by decide +kernel
theorem sCA : ¬ (("cells" : Str) = "at") := by decide +kernel
theorem sLA : ¬ (("left" : Str) = "at") := by decide +kernel
theorem sAL : ¬ (("at" : Str) = "left") := by decide +kernel
theorem dd_pl (c l l' : Addr) (k : Int) : putK (dd c l k) (.inr "left") (.ref l') = dd c l' k := by
  simp [putK, dd, sCL, sAL]
theorem dd_pa (c l : Addr) (k k' : Int) : putK (dd c l k) (.inr "at") (.int k') = dd c l k' := by
  simp [putK, dd, sCA, sLA]
theorem dd_mk (c l : Addr) : mergeK [] [(Sum.inr "cells", V.ref c), (Sum.inr "left", V.ref l), (Sum.inr "at", V.int 0)] = dd c l 0 := by
  simp [mergeK, putK, dd, sCL, sCA, sLA]

/-- at m the drawer with its lists at c and l, for n draws more -/
structure Dr (H : Hp) (m c l : Addr) (n : Nat) : Prop where
  ex : ∃ (cs ls : List Int) (k : Int), H m = some (.dK (dd c l k)) ∧ H c = some (.lst (cs.map V.int)) ∧ H l = some (.lst (ls.map V.int)) ∧ c ≠ l ∧
    cs.length ≤ 63 ∧ ls.length ≤ 63 ∧ (∀ x ∈ ls, 0 ≤ x) ∧ 0 ≤ k ∧ k + (n : Int) ≤ 1000000
/-- all but the drawer's own stands; its list of what is left is the old one or new -/
structure Kp (m l : Addr) (H : Hp) (l' : Addr) (H' : Hp) : Prop where
  st : ∀ b o, H b = some o → b ≠ m → b ≠ l → H' b = some o
  nw : l' = l ∨ H l' = none
  dm : ∀ b, H' b = none → H b = none
theorem Kp.refl (m l : Addr) (H : Hp) : Kp m l H l H := ⟨fun _ _ h _ _ => h, .inl rfl, fun _ h => h⟩
theorem Kp.off {m l l' : Addr} {H H' : Hp} (k : Kp m l H l' H') {b : Addr} {o : HO} (h : H b = some o) (n : b ≠ l) : b ≠ l' := by
  rcases k.nw with e | e
  · rw [e]; exact n
  · exact ne_of_none h e
theorem Kp.trans {m l l' l'' : Addr} {H H' H'' : Hp} (a : Kp m l H l' H') (b : Kp m l' H' l'' H'') : Kp m l H l'' H'' := by
  refine ⟨fun q o h n1 n2 => b.st q o (a.st q o h n1 n2) n1 (a.off h n2), ?_, fun q e => a.dm q (b.dm q e)⟩
  rcases b.nw with e | e
  · rw [e]; exact a.nw
  · exact .inr (a.dm _ e)
/-- a new object -/
theorem Kp.new {m l : Addr} {H : Hp} {p : Addr} {o : HO} (h : H p = none) : Kp m l H l (upd H p o) := by
  refine ⟨fun b u e _ _ => same_new h b u e, .inl rfl, fun b e => ?_⟩
  unfold upd at e
  split at e
  · cases e
  · exact e
theorem Dr.new {H : Hp} {m c l n : Nat} {p : Addr} {o : HO} (d : Dr H m c l n) (h : H p = none) : Dr (upd H p o) m c l n := by
  obtain ⟨cs, ls, k, h1, h2, h3, r⟩ := d.ex
  exact ⟨cs, ls, k, same_new h _ _ h1, same_new h _ _ h2, same_new h _ _ h3, r⟩
/-- a change of another object than the drawer's -/
theorem Dr.set {H : Hp} {m c l n : Nat} {p : Addr} {o : HO} (d : Dr H m c l n) (n1 : p ≠ m) (n2 : p ≠ c) (n3 : p ≠ l) : Dr (upd H p o) m c l n := by
  obtain ⟨cs, ls, k, h1, h2, h3, r⟩ := d.ex
  exact ⟨cs, ls, k, (upd_ne n1.symm).trans h1, (upd_ne n2.symm).trans h2, (upd_ne n3.symm).trans h3, r⟩
theorem Dr.less {H : Hp} {m c l n k : Nat} (d : Dr H m c l n) (h : k ≤ n) : Dr H m c l k := by
  obtain ⟨cs, ls, z, h1, h2, h3, h4, h5, h6, h7, h8, h9⟩ := d.ex
  exact ⟨cs, ls, z, h1, h2, h3, h4, h5, h6, h7, h8, by omega⟩
theorem Dr.same {H H' : Hp} {m c l n : Nat} (d : Dr H m c l n) (s : Same H H') : Dr H' m c l n := by
  obtain ⟨cs, ls, k, h1, h2, h3, r⟩ := d.ex
  exact ⟨cs, ls, k, s _ _ h1, s _ _ h2, s _ _ h3, r⟩
theorem Kp.same {m l : Addr} {H H' : Hp} (s : Same H H') : Kp m l H l H' := ⟨fun b o h _ _ => s b o h, .inl rfl, fun _ h => s.free h⟩
/-- tuples stand -/
theorem Kp.tup {m c l l' n : Addr} {H H' : Hp} (k : Kp m l H l' H') (d : Dr H m c l n) : TupS H H' := fun b xs h => by
  obtain ⟨cs, ls, z, h1, h2, h3, r⟩ := d.ex
  exact k.st b _ h (ne_of h h1 nofun) (ne_of h h3 nofun)
end My

/-! Defs that write out data (repr): their promise is asked only where nothing is being written out around them. -/
namespace My
open PySem PySem.Spec PyProof.Rows L2
/-- as the layer's promise of a def, for calls around which no guard stands -/
structure FnG (P : Program) (w : World) (K : PySem.W.Frag) (mg : Str → Option Value) (base : Heap) (k : Nat) (f : Addr) (fd : FuncData)
    (ps : List Str) (sp : Sp) : Prop where
  len : ∀ vs H Q E, sp vs H Q E → vs.length = ps.length
  go : ∀ (A : Around) (outer : List Env) (s : Shared) (H : Hp) (args : Args) (us : List Value) (vs : List V) (Q : VK) (E : XK),
    A.guards = some [] → Room k A → Env0 P w K mg base A outer s H → BindsTo s fd args (ps.zip us) → Vals vs us → sp vs H Q E →
    codeAny (model P w) A (.call (.ref f) args) (CR CX0 outer P w H s Q E) s
section
variable {P : Program} {w : World} {K : PySem.W.Frag} {mg : Str → Option Value} {base : Heap}
theorem FnG.of {k : Nat} {f : Addr} {fd : FuncData} {ps : List Str} {sp : Sp} (F : FnOk P w K mg base CX0 k f fd ps sp) : FnG P w K mg base k f fd ps sp :=
  ⟨F.len, fun A o s H args us vs Q E _ hr => F.run A o s H args us vs Q E hr⟩
theorem okG {x qual : Str} {st : Stmt} {f : Addr} {fd : FuncData} {N ps : List Str} {k : Nat} {sp : Sp} (F : Fun K x qual st f fd)
    (S : FnScope N ps (defScope st)) (len : ∀ vs H Q E, sp vs H Q E → vs.length = ps.length)
    (body : ∀ (cdv : Value) (A : Around) (outer : List Env) (s : Shared) (H : Hp) (vs : List V) (Q : VK) (E : XK), A.guards = some [] →
      Room k (A.deeper (envOfC qual (defScope st) s.heap.objs.size f cdv)) → sp vs H Q E →
      ∃ t, PSs (cxOf CX0 P w K mg base N qual (defScope st) f cdv A outer s H E).nox (defBody st) t ∧
        t { nx := fun _ H' => Q .non H', rt := Q } (start N vs) H) :
    FnG P w K mg base (k + 1) f fd ps sp := by
  obtain ⟨oc, od, kV, doc, pm, an, cdv, ct, osl, rfl, lk, hcd⟩ := F.ex
  refine ⟨len, fun A outer s H args us vs Q E hg room env0 binds rel want => ?_⟩
  have inK : K.In s.heap := env0.mod.kin.keeps fun b o e => (env0.bs b o e).1
  have noLim : s.heap.NoLimit := env0.mod.nolimit.keeps fun b o e => (env0.bs b o e).1
  have kinds : ∀ y ∈ ps.zip us, (defScope st).names.lookup y.1 = some .local ∨
      ((defScope st).names.lookup y.1 = some .cell ∧ ((cellsFrom (s.heap.objs.size + 1) (defScope st).names []).lookup y.1).isSome = true) := by
    rintro ⟨n, v⟩ hy
    rcases S.par n (List.of_mem_zip hy).1 with q | q
    · exact Or.inl q
    · exact Or.inr ⟨q, PySem.W.cellsFrom_some _ _ _ (Or.inl q)⟩
  refine codeAny_call_function room.depth (inK _ _ lk) rfl S.co S.gen rfl (PySem.W.codeRec_of inK hcd)
    (binds _ _ _ _ ?_)
  refine wpAny_newFunctionEnv_cells S.kind kinds
    fun env he s1 x => ?_
  subst he
  refine ⟨noLim.keeps x.toInCall.keep,
    codeAny_func ?_⟩
  obtain ⟨t, ht, run⟩ := body cdv A outer s H vs Q E hg (room.deeper _) want
  have start0 : Inv (cxOf CX0 P w K mg base N qual (defScope st) f cdv A outer s H E) [] (start N vs) H s1 :=
    inv_start S room.hd env0 (len _ _ _ _ want) rel x
  refine wpAny_mono (ht.nox.run [] s1 (start N vs) H _ start0 run)
    (fun flow s' hs => ?_) fun e s' hs => hs
  have fin : ∀ {σ' : L2.St} {H' : Hp} {v : V} {u : Value}, Inv (cxOf CX0 P w K mg base N qual (defScope st) f cdv A outer s H E) [] σ' H' s' →
      RelV v u → Q v H' → CE outer P w H s Q u s' :=
    fun {_ H' v _} J rv q => ⟨v, H', J.os, J.bare, J.base, J.hok, rv, q⟩
  cases flow with
  | ret u =>
    obtain ⟨v, σ', H', J, rv, q⟩ := hs
    exact fin J rv q
  | next =>
    obtain ⟨σ', H', J, q⟩ := hs
    exact fin (v := V.non) (u := Value.none) J rfl q
  | brk => obtain ⟨_, _, _, q⟩ := hs; exact q.elim
  | cont => obtain ⟨_, _, _, q⟩ := hs; exact q.elim
end
section
variable {X : Cx}
theorem goG {k : Nat} {f : Addr} {fd : FuncData} {ps : List Str} {sp : Sp} {ds : List Value} {dvs : List V} {E : XK} {pins : List (Addr × Obj)} {σ : L2.St} {H : Hp} {s : Shared} {Q : VK} {us : List Value} {vs : List V}
    (F : FnG X.prog X.w X.K X.mg X.base k f fd ps sp) (hg : X.A.guards = some []) (hr : Room k X.A) (hb : Binds X.K fd ps ds) (hd : Vals dvs ds) (hx : Passes CX0 X E)
    (I : Inv X pins σ H s) (r : Vals vs us) (h : sp (vs ++ dvs) H Q E) :
    wpAny (model X.prog X.w) X.A (call (.ref f) us) (EP X pins σ Q) X.xe s := by
  have rr : Vals (vs ++ dvs) (us ++ ds) := r.append hd
  have len : (us ++ ds).length = ps.length := rr.length ▸ F.len _ _ _ _ h
  refine wpAny_call (codeAny_mono (F.go X.A X.stack s H ⟨us, []⟩ (us ++ ds) (vs ++ dvs) Q E hg hr I.env0 (hb s us I.kIn len) rr h) ?_)
  intro res s' hq
  match res, hq with
  | .error e, hq => exact hx pins σ H s e s' I hq
  | .ok (.ret u), hq => exact I.after hq
/-- f(e, ..), f writing out data -/
theorem pe_callG {k : Nat} {f : Addr} {fd : FuncData} {ps : List Str} {sp : Sp} {ds : List Value} {dvs : List V} {E : XK} {x : Str} {e : Expr} {es : List Expr} {t : TA} {p pos : Pos}
    (F : FnG X.prog X.w X.K X.mg X.base k f fd ps sp) (hgd : X.A.guards = some []) (hr : Room k X.A) (hg : Gl X x) (hm : X.mg x = some (.ref f)) (hk : PySem.W.keepIn X.K (.ref f) = true)
    (hb : Binds X.K fd ps ds) (hd : Vals dvs ds) (hx : Passes CX0 X E) (ha : PA X (e :: es) t) (hdb : (x == ("__debug__" : Str)) = false := by decide)
    (he : starEach (e :: es) X.env = (false, eval e X.env) :: starEach es X.env := by rfl)
    (hpl : (backTo pos (starEach es X.env)).any (·.1) = false := by rfl) :
    PE X (.Call (.Name x p) (e :: es) [] pos) (tCall sp dvs E t) := by
  refine ⟨fun pins s σ H Q I h => wpAny_Call_Name_kw (ld_glob I hg hm ?_ hdb)⟩
  refine PySem.W.callWith_K (h₀ := X.base) I.ok.mod.kin hk
    (thn (ha.run pos pins s σ H _ I h) fun us s1 ⟨vs, H1, I1, r, q⟩ => ⟨I1.kIn, ?_⟩) he hpl
  exact goG F hgd hr hb hd hx I1 r q

/-! ### repr -/
def rRepr (K : PySem.W.Frag) : List V → Hp → VK → Prop := fun xs H Q => ∃ (v : V) (d : PyData), xs = [v] ∧ Dp K H v d ∧ d.showable = true ∧ d.hasDict = false ∧
  d.depth ≤ 60 ∧ d.shown.length ≤ sizeLine ∧ Q (.str d.shown) H
theorem call_repr (hg : X.A.guards = some []) (hu : X.A.units + 64 < cLine) : CallR X (.builtin "repr") (rRepr X.K) := by
  intro pins s σ H xs us Q I r h
  obtain ⟨v, d, rfl, hd, hs, hn, hdp, hz, q⟩ := h
  obtain ⟨u, rfl, ru⟩ := vals1 r
  cases hd with
  | non =>
    cases ru
    exact P.repr_of_none ⟨.str _, H, I.tok _, ⟨_, rfl⟩, q⟩
  | bl b =>
    cases ru
    exact P.repr_of_bool ⟨.str _, H, I.tok _, ⟨_, rfl⟩, q⟩
  | int i =>
    obtain ⟨t, rfl⟩ := ru
    exact P.repr_of_int (of_decide_eq_true hs) ⟨.str _, H, I.tok _, ⟨_, rfl⟩, q⟩
  | str x =>
    obtain ⟨t, rfl⟩ := ru
    exact P.repr_of_str ⟨.str _, H, I.tok _, ⟨_, rfl⟩, q⟩ hz
  | @lst a xs ds h1 h2 =>
    cases ru
    obtain ⟨as, rd⟩ := Dp.reads I (.list ds) (.ref a) (.ref a) (.lst h1 h2) rfl
    refine repr_of_reads' rd hs (fun z => by rw [hn] at z; cases z) hg (by omega) (fun _ _ e => e) (fun h' u tk hk => ?_) hz
    exact ⟨.str _, H, I.kept hk, ⟨_, rfl⟩, q⟩
  | @tup a xs ds h1 h2 =>
    cases ru
    obtain ⟨as, rd⟩ := Dp.reads I (.tuple ds) (.ref a) (.ref a) (.tup h1 h2) rfl
    refine repr_of_reads' rd hs (fun z => by rw [hn] at z; cases z) hg (by omega) (fun _ _ e => e) (fun h' u tk hk => ?_) hz
    exact ⟨.str _, H, I.kept hk, ⟨_, rfl⟩, q⟩
end
end My

/-! The end of a law whose promise is asked where no guard stands. -/
namespace My
open PySem PySem.Spec PyProof.Rows L2
theorem law_callG {P : Program} {w : World} {K : PySem.W.Frag} {mg mb : Str → Option Value} {k : Nat} {fa a : Addr} {fd : FuncData} {x : Str} {sp : Sp} {s₁ : Shared} {vs : List Value} {ns : List Int}
    (inK : K.In s₁.heap) (glob : s₁.heap.Ns mainGlobals mg) (blt : s₁.heap.Ns builtinsNs mb) (boot : ∀ x : Str, x ≠ "__name__" → mb x = bootBuiltins x) (nolim : s₁.heap.NoLimit) (nogen : s₁.gens = #[])
    (hobj : s₁.heap.get? a = some { cls := .type "list", data := .seq vs.toArray }) (hints : IntsAre vs ns) (hlen : ns.length ≤ sizeLine) (room : Room k callerA)
    (F : ∀ base : Heap, K.In base → base.Ns mainGlobals mg → FnG P w K mg base k fa fd [x] sp) (binds : ∀ (s : Shared) (u : Value), BindsTo s fd ⟨[u], []⟩ [(x, u)])
    (want : ∀ H : Hp, Only H → SqL K H a (ns.map V.int) → sp [.ref a] H (fun v _ => v = .bl true) fun _ _ _ => False) :
    codeAny (model P w) callerA (.call (.ref fa) ⟨[.ref a], []⟩) (fun r s' => r = .ok (.ret (.bool true)) ∧ OldK s₁.heap s'.heap ∧ s'.os = s₁.os ∧ AllBare s'.gens) s₁ := by
  have relv := vals_ints hints
  have core : ∀ H : Hp, Only H → SqL K H a (ns.map V.int) → HOk P w H s₁.heap → (∀ b, H b ≠ none → b = a) → (H a ≠ none → K.lookup a = none) →
      codeAny (model P w) callerA (.call (.ref fa) ⟨[.ref a], []⟩) (fun r s' => r = .ok (.ret (.bool true)) ∧ OldK s₁.heap s'.heap ∧ s'.os = s₁.os ∧ AllBare s'.gens) s₁ := by
    intro H only seq ok one notK
    have up : ∀ {b : Addr} {o : Obj}, s₁.heap.get? b = some o → H b = none → (hidT s₁.heap H).get? b = some o := fun e n => hidT_get e n
    have dictFree : ∀ {b : Addr} {o : Obj} {es : Array DictEntry} {ep : Nat}, s₁.heap.get? b = some o → o.data = .dict es ep → H b = none := by
      intro b o es ep e d
      cases q : H b with
      | none => rfl
      | some u =>
        have eb : b = a := one b (fun z => by rw [q] at z; cases z)
        rw [eb, hobj] at e
        cases e
        exact Data.noConfusion (show Data.seq vs.toArray _ = Data.dict es ep from d)
    have nsUp : ∀ {b : Addr} {m : Str → Option Value}, s₁.heap.Ns b m → (hidT s₁.heap H).Ns b m :=
      fun {_ _} ⟨o, es, ep, e, d, r⟩ => ⟨o, es, ep, up e (dictFree e d), d, r⟩
    have kUp : K.In (hidT s₁.heap H) := by
      intro b o e
      refine up (inK b o e) ?_
      cases q : H b with
      | none => rfl
      | some u =>
        have eb : b = a := one b (fun z => by rw [q] at z; cases z)
        rw [eb, notK (fun z => by rw [← eb, q] at z; cases z)] at e
        cases e
    have mod : Mod K mg (hidT s₁.heap H) := ⟨kUp, nsUp glob, ⟨mb, nsUp blt, boot⟩, nolim.imp fun mc z => ⟨nsUp z.1, z.2⟩⟩
    have env0 : Env0 P w K mg (hidT s₁.heap H) callerA [] s₁ H :=
      ⟨rfl, mod, fun b o e => of_hidT e, Nat.le_of_eq (hidT_size _ _), trivial, fun b hb => absurd (show b ∈ ([] : List Addr) from hb) (by simp), ok, .of_eq nogen⟩
    have call := (F _ kUp (nsUp glob)).go callerA [] s₁ H ⟨[.ref a], []⟩ [.ref a] [.ref a] _ _ rfl room env0 (binds s₁ (.ref a)) (.cons rfl .nil) (want H only seq)
    refine codeAny_mono call fun r s' h => ?_
    match r, h with
    | .error e, h => exact (show False from h).elim
    | .ok (.ret u), h =>
      obtain ⟨v, H', os, bare, un, ok', rv, q⟩ := h
      obtain rfl : v = .bl true := q
      obtain rfl : u = Value.bool true := rv
      refine ⟨rfl, OldK.of_keep (fun b o e => ?_), os, bare⟩
      rcases only b with z | ⟨ob, xs, z⟩
      · exact un.keep b o e z (fun y => absurd (show b ∈ ([] : List Addr) from y) (by simp)) (by simp)
      · obtain ⟨e1, _⟩ := ok b _ z
        obtain ⟨e2, _⟩ := ok' b _ (un.frzs b ob _ z)
        rw [e] at e1
        cases e1
        exact e2
  cases hk : K.lookup a with
  | some o =>
    have e := inK a o hk
    rw [hobj] at e
    cases e
    have stands : SqL K (fun _ => none) a (ns.map V.int) := .inr ⟨_, vs.toArray, _, hk, rfl, rfl, rfl, by rw [List.size_toArray, hints.length]; exact hlen, by simpa using relv⟩
    exact core (fun _ => none) (fun _ => .inl rfl) stands (fun b u z => nomatch (show (none : Option HO) = some u from z)) (fun b z => absurd rfl z) fun z => absurd rfl z
  | none =>
    let o : Obj := { cls := .type "list", data := .seq vs.toArray }
    have atA : (fun b => if b = a then some (HO.frz o (.lst (ns.map V.int))) else none) a = some (.frz o (.lst (ns.map V.int))) := if_pos rfl
    refine core (fun b => if b = a then some (.frz o (.lst (ns.map V.int))) else none) (fun b => ?_) (.inl (.inr ⟨o, atA⟩)) (fun b u z => ?_) (fun b z => ?_) fun _ => hk
    · by_cases hb : b = a
      · exact .inr ⟨_, _, if_pos hb⟩
      · exact .inl (if_neg hb)
    · by_cases hb : b = a
      · have y := (if_pos hb).symm.trans z
        cases y
        rw [hb]
        exact ⟨hobj, by rw [List.length_map]; exact hlen, vs, _, relv, hobj⟩
      · exact nomatch (if_neg hb).symm.trans z
    · by_cases hb : b = a
      · exact hb
      · exact absurd (if_neg hb) z
theorem walk_ofG {l : PySem.W.OpenLaw} {n k : Nat} {q : Program} {loose : List Str} {XP : (Str → Option Value) → Heap → Prop} {YP : World → Heap → Prop} {d : DefRec}
    {K : Params → PySem.W.Frag} {sp : PySem.W.Frag → Sp} {x : Str}
    (hn : l.most = some n) (hn2 : n ≤ sizeLine) (hdf : d.params.defaults = []) (room : Room k callerA)
    (hY : ∀ (w : World) (h : Heap), YP w h → (K w.params).In h)
    (F : ∀ (w : World) (mg : Str → Option Value) (fa : Addr) (h : Heap), (K w.params).In h → h.Ns mainGlobals mg → mg d.name = some (.ref fa) →
      ∃ fd : FuncData, (∀ (s : Shared) (u : Value), BindsTo s fd ⟨[u], []⟩ [(x, u)]) ∧
        ∀ base : Heap, (K w.params).In base → base.Ns mainGlobals mg → FnG l.prog w (K w.params) mg base k fa fd [x] (sp (K w.params)))
    (want : ∀ (K : PySem.W.Frag) (H : Hp) (a : Addr) (ns : List Int), ns.length ≤ n → Only H → SqL K H a (ns.map V.int) → sp K [.ref a] H (fun v _ => v = .bl true) fun _ _ _ => False) :
    PySem.W.WalkO q loose XP YP l.row.toRowW d [] (fun f vs => PySem.call f vs) := by
  refine Att.attach_call hn hdf fun w s₀ s₁ mg mb fa o pm cd doc a vs ns G Y ho hd hcd hmg hobj hints hlen hg => ?_
  obtain ⟨fd, hb, hF⟩ := F w mg fa _ (hY w _ Y) G.T.g hmg
  exact law_callG (hY w _ Y) G.T.g G.T.b G.T.builtins G.T.nolimit hg hobj hints
    (Nat.le_trans hlen hn2) room hF hb fun H only seq => want (K w.params) H a ns hlen only seq
end My

/-! for i, x in enumerate(t), t a tuple. -/
namespace My
open PySem PySem.Spec PyProof.Rows L2
/-- what enumerate(v) makes: v's iterator and itself -/
def enumO (a : Addr) : Obj :=
  { cls := .type "enumerate",
    data := .fields #[.none, .bool false, .ref a, rawInt 0, .none, .none] }
set_option maxHeartbeats 1000000 in
theorem meets_enum1 {v : Value} {o : Obj} {G : Heap → Prop} (B : Begins v o G) :
    Meets (Builtin.«enumerate.__new__» ⟨[.type "enumerate", v], []⟩) (fun _ R s => G s.heap ∧
      R (.ok (.ret (.ref (s.heap.push o).objs.size)))
        { s with heap := (s.heap.push o).push (enumO s.heap.objs.size) }) :=
  .of_wp fun prog w A R s ⟨h1, h⟩ => by
    obtain ⟨hp, gens, drawn, tk, os⟩ := s
    have isSub := sub_enumerate
    have step : ∀ {A' : Around} {E : Value → Shared → Prop} {Q : Value → Shared → Prop}, Q (.ref hp.objs.size) ⟨hp.push o, gens, drawn, tk, os⟩ →
        wpAny (model prog w) A' (pyIter v) Q E ⟨hp, gens, drawn, tk, os⟩ :=
      fun q => B.iter prog w _ _ ⟨hp, gens, drawn, tk, os⟩ _ h1 q
    wp_walk using step
    refine wpAny_stack_any fun st => wpAny_pure ?_
    split
    · rename_i c _ _ _ _ _
      by_cases hc : (c == Value.type "enumerate") = true
      · rw [hc]
        wp_walk using step
        exact ⟨_, rfl, h⟩
      · rw [Bool.not_eq_true] at hc
        rw [hc]
        wp_walk using step
        exact ⟨_, rfl, h⟩
    · wp_walk using step
      exact ⟨_, rfl, h⟩
section
variable {prog : Program} {w : World} {A : Around} {E : Value → Shared → Prop} {s : Shared}
theorem enum_call1 {v : Value} {o : Obj} {G : Heap → Prop} {Q : Value → Shared → Prop} (B : Begins v o G) (h1 : G s.heap)
    (h : ∀ h', IsEnum h' (s.heap.objs.size + 1) s.heap.objs.size 0 .none → h'.get? s.heap.objs.size = some o →
      (∀ b u, s.heap.get? b = some u → h'.get? b = some u) → Q (.ref (s.heap.objs.size + 1)) { s with heap := h' }) :
    wpAny (model prog w) A (call (.type "enumerate") [v]) Q E s := by
  have size1 : (s.heap.push o).objs.size = s.heap.objs.size + 1 := Heap.size_push ..
  have made : IsEnum ((s.heap.push o).push (enumO s.heap.objs.size)) (s.heap.objs.size + 1) s.heap.objs.size 0 .none := by
    have z := Heap.get?_push_size (s.heap.push o) (o := enumO s.heap.objs.size) rfl
    rw [size1] at z
    exact z
  refine callType_new F.called_enumerate (by decide) (F.typeCall_enumerate_1 _) (F.newCall_enumerate_1 _)
    (fun obj => F.args_object_init_2 obj _) F.entry_enumerate_new (meets_enum1 B) ⟨h1, ?_⟩
  show _ ∧ _
  rw [size1]
  exact ⟨⟨_, made, rfl⟩, h _ made (Heap.get?_push_of_some _ (Heap.get?_push_size _ B.free)) fun b u x => Heap.get?_push_of_some _ (Heap.get?_push_of_some _ x)⟩
end
/-- the tuple at a, each item in a new pair with its number -/
def Itu (K : PySem.W.Frag) (a : Addr) : It where
  go i H := ∃ (xs : List V) (x : V), SqT K H a xs ∧ xs[i]? = some x
  yld i H v H' := ∃ T x, v = .ref T ∧ H T = none ∧ H' = upd H T (.tup [.int (i : Nat), x]) ∧ ∀ xs, SqT K H a xs → xs[i]? = some x
  stop i H := ∃ xs : List V, SqT K H a xs ∧ xs.length = i
def EnumAt (e it a : Addr) (i : Nat) (h : Heap) : Prop := (∃ old, IsEnum h e it ((i : Nat) : Int) old) ∧ h.IsTupleIter it a i ∧ e ≠ it
theorem turn_enumT {P : Program} {w : World} {K : PySem.W.Frag} {elts : List Expr} {kk : Nat} {tpos : Pos} (a e it : Addr) (hae : a ≠ e) (hai : a ≠ it) :
    Turn P w K (.Tuple elts kk tpos) (Itu K a) [e, it] e (EnumAt e it a) where
  mem := by simp
  obj := fun i h st b hb => by
    obtain ⟨⟨old, he⟩, ⟨o, ho, hc, hd⟩, _⟩ := st
    rcases List.mem_cons.mp hb with z | z
    · rw [z]; exact ⟨_, he, fun v q => nomatch q⟩
    · rw [List.mem_singleton.mp z]; exact ⟨o, ho, fun v q => by rw [hd] at q; cases q⟩
  keep := fun i h h' st k => by
    obtain ⟨⟨old, he⟩, hi, hne⟩ := st
    exact ⟨⟨old, k e (by simp) _ he⟩, hi.at fun o q => k it (by simp) o q, hne⟩
  item := by
    intro X hP hw hK hc i pins s σ H E I hf st hg
    subst hP hw hK
    obtain ⟨⟨old, he⟩, hit, hne⟩ := st
    obtain ⟨xs, x, hq, hx⟩ := hg
    obtain ⟨its, rv, p, hz⟩ := I.tuple hq
    obtain ⟨u, hu, ru⟩ := rv.get hx
    have helt : e < s.heap.objs.size := Heap.lt_size he
    have hilt : it < s.heap.objs.size := by
      obtain ⟨_, q, _⟩ := hit
      exact Heap.lt_size q
    have hlt : i < its.toArray.size := by
      rw [List.size_toArray]
      exact (List.getElem?_eq_some_iff.mp hu).1
    have hef : e ∉ [it, a] := by
      intro z
      rcases List.mem_cons.mp z with q | q
      · exact hne q
      · exact hae (List.mem_singleton.mp q).symm
    refine wpAny_pyNext_enum_itemD (Draws.tuple (A := X.A.in1) (I.ok.hd hc) it a hai its.toArray) he ⟨hit, p⟩ hlt hne hef fun y h' tk hy ho hst' hT hsz hk => ?_
    have hy' : y = u := by
      have z : its.toArray[i]? = some u := by simpa using hu
      exact Option.some.inj (hy.symm.trans z)
    subst hy'
    refine ⟨_, rfl, wpAny_letOwnedTupleGo_enum (s := { s with heap := h', toks := tk + 1 }) ho fun h'' he' sb => ?_⟩
    have hT2 : h''.get? s.heap.objs.size = some { cls := .type "tuple", data := .seq #[.int i tk, y] } :=
      (sb.2 _ (Nat.ne_of_gt helt)).trans hT
    have new : ObjOk X.prog X.w (upd H s.heap.objs.size (.tup [.int (i : Nat), x])) h'' s.heap.objs.size (.tup [.int (i : Nat), x]) :=
      ⟨(by decide : 2 ≤ sizeLine), [.int i tk, y], .cons ⟨_, rfl⟩ (.cons ru .nil), _, hT2, rfl, _, rfl⟩
    have I1 : Inv X pins σ (upd H s.heap.objs.size (.tup [.int (i : Nat), x])) { s with heap := h'', toks := tk + 1 } :=
      I.turnedNew (ch := [e, it])
        (fun b ob hb q => (sb.2 b (fun z => hb (by simp [z]))).trans (hk b ob (fun z => hb (by simp [z])) (fun z => hb (by simp [z])) q)) hf (Nat.le_refl _) new
    refine ⟨.ref s.heap.objs.size, _, I1, rfl, ⟨_, x, rfl, I.hok.fresh (Nat.le_refl _), rfl, fun ys hy => by rw [I.tuple_inj hy hq]; exact hx⟩,
      ⟨⟨y, ?_⟩, hst'.1.at fun o q => (sb.2 it (Ne.symm hne)).trans q, hne⟩, fun b hb => ?_⟩
    · rw [show ((i + 1 : Nat) : Int) = (i : Int) + 1 by omega]
      exact he'
    · have hlt : b < s.heap.objs.size := by
        rcases List.mem_cons.mp hb with z | z
        · rw [z]; exact helt
        · rw [List.mem_singleton.mp z]; exact hilt
      rw [upd_ne (Nat.ne_of_lt hlt)]
      exact (hf b hb).1
  done := by
    intro X hP hw hK hc i pins s σ H E I hf st hg
    subst hP hw hK
    obtain ⟨⟨old, he⟩, hit, hne⟩ := st
    obtain ⟨xs, hq, hx⟩ := hg
    obtain ⟨its, rv, p, hz⟩ := I.tuple hq
    obtain ⟨f0, f1, f2, f3, f4, f5⟩ := hf it (by simp)
    have hl : its.toArray.size = i := by rw [List.size_toArray, ← rv.length, hx]
    have st : its.toArray.size = i → (s.heap.IsTupleIter it a its.toArray.size ∧ s.heap.IsTuple a its.toArray) := fun z => ⟨z ▸ hit, p⟩
    refine wpAny_pyNext_enum_endD (Draws.tuple (A := X.A.in1) (I.ok.hd hc) it a hai its.toArray) he (st hl) fun h' eb => ⟨rfl, ?_⟩
    exact I.turned (t' := s.toks) (fun b o hb q => eb b o hb q) f0 f1 f3 f4 f5
  self := fun A i s Q E st h => by
    obtain ⟨⟨_, he⟩, _⟩ := st
    exact wpAny_pyIter_enum he h
def iEnumT (K : PySem.W.Frag) (ta : TA) : TI := fun σ H R => ta σ H fun vs H1 => ∃ a xs, vs = [.ref a] ∧ SqT K H1 a xs ∧ R (Itu K a) H1
theorem pi_enumT {X : Cx} {e : Expr} {ta : TA} {p pos tpos : Pos} {elts : List Expr} {kk : Nat} (hg : Gl X "enumerate") (hm : X.mg "enumerate" = none) (ha : PA X [e] ta)
    (hs : starEach [e] X.env = [(false, eval e X.env)] := by rfl) : PI X (.Tuple elts kk tpos) (.Call (.Name "enumerate" p) [e] [] pos) (iEnumT X.K ta) := by
  refine ⟨fun pins s σ H R I h => Call_ (ld_blt I hg hm boot_enumerate (PyProof.Rows.callWith_type1 ?_ hs rfl))⟩
  refine thn (ha.run pos pins s σ H _ I h) fun us s1 ⟨vs, H1, I1, r1, a, xs, ex, hq, q⟩ => ?_
  subst ex
  obtain ⟨u, rfl, ru⟩ := vals1 r1
  obtain rfl : u = Value.ref a := ru
  obtain ⟨its, rv, p', hz⟩ := I1.tuple hq
  have hlt : a < s1.heap.objs.size := (by obtain ⟨o, ho, _⟩ := p'; exact Heap.lt_size ho)
  refine enum_call1 (begins_tuple a its.toArray) p' fun h' he hit hk => wpAny_pyIter_enum he ?_
  have I2 : Inv X pins σ H1 { s1 with heap := h' } := I1.kept (t' := s1.toks) hk
  refine ⟨s1.heap.objs.size + 1, [s1.heap.objs.size + 1, s1.heap.objs.size], _, _, H1, rfl, I2,
    turn_enumT a (s1.heap.objs.size + 1) s1.heap.objs.size (Nat.ne_of_lt (Nat.lt_succ_of_lt hlt)) (Nat.ne_of_lt hlt), ⟨⟨.none, he⟩, ⟨_, hit, rfl, rfl⟩, Nat.succ_ne_self _⟩, fun b hb => ?_, q⟩
  have hle : s1.heap.objs.size ≤ b := by
    rcases List.mem_cons.mp hb with z | z
    · rw [z]; exact Nat.le_add_right _ _
    · rw [List.mem_singleton.mp z]; exact Nat.le_refl _
  exact I1.fpOk hle (I1.hok.fresh hle)
end My

/-! rules within a comprehension: the written part by its own name -/
namespace My
open PySem PySem.Spec PyProof.Rows L2
section
variable {X : Cx}
theorem pg_tupK {K : PySem.W.Frag} {es : List Expr} {k : Nat} {pos : Pos} {t : TGs} {n : Nat} (hc : X.calm = true) (h : PGs X es t) (hK : X.K = K := by rfl)
    (hn : (assignEach es X.env).length = n := by rfl) (hst : (assignEach es X.env).findIdx? (·.1) = none := by rfl) : PG X (.Tuple es k pos) (gTup K n t) := by
  subst hK
  exact pg_tup hc h hn hst
theorem call_reprK {K : PySem.W.Frag} (hg : X.A.guards = some []) (hu : X.A.units + 64 < cLine) (h : X.K = K := by rfl) : CallR X (.builtin "repr") (rRepr K) := by
  subst h
  exact call_repr hg hu
variable {o e : Expr} {es : List Expr} {to : TE} {t : TA} {name : Str} {apos cpos : Pos} {T id : String} {r : V → List V → Hp → VK → Prop}
theorem pe_bmK {K : PySem.W.Frag} (pa : PlainAttrs T) (slot : Slot T name id) (hty : typeOf (.builtin id) = pure (.type "method_descriptor")) (hm : MtR X id r) (ho : PE X o to) (ha : PA X (e :: es) t) (hK : X.K = K := by rfl)
    (hbase : attributeBase o name X.env (eval o X.env) = eval o X.env := by rfl)
    (hfew : ((backTo cpos (starEach (e :: es) X.env)).all (fun x => !x.1) && (backToKw cpos (keywordEach [] X.env)).all (fun x => x.1.isSome)
      && decide ((e :: es).length + ([] : List Keyword).length + (if ([] : List Keyword).isEmpty then 0 else 1) < 30)) = true := by rfl)
    (hline : (apos.endLine == cpos.line) = true := by rfl) (hs : starEach (e :: es) X.env = (false, eval e X.env) :: starEach es X.env := by rfl) (hplain : (backTo cpos (starEach es X.env)).any (·.1) = false := by rfl) :
    PE X (.Call (.Attribute o name apos) (e :: es) [] cpos) (tBM K T r to t) := by
  subst hK
  exact pe_bm pa slot hty hm ho ha hbase hfew hline hs hplain
end
end My

/-! An own error whose __init__ stores no field: it has no dict. -/
namespace My
open PySem PySem.Spec PyProof.Rows L2
def tMk0 (C : Addr) (sp : Sp) (ta : TA) : L2.St → Hp → XK → Prop := fun σ H Q => ta σ H fun vs H1 => vs.length ≤ 1000 ∧ ∀ a, H1 a = none →
  sp (.ref a :: vs) (upd H1 a (exo a C none)) (fun v H2 => v = .non ∧ H2 a = some (exo a C none) ∧ Q (.ref C) none (del H2 a)) (fun _ _ _ => False)
section
variable {X : Cx}
theorem end_nodict {pins : List (Addr × Obj)} {σ : L2.St} {H1 H2 : Hp} {hp hp2 h2 : Heap} {g1 g2 : Array GenState} {d1 d2 : Drawn} {t1 t2 : Nat} {os1 os2 : OsState} {a C : Addr}
    (I1 : Inv X pins σ H1 ⟨hp, g1, d1, t1, os1⟩) (above : hp.objs.size ≤ a) (kept : ∀ b o, hp.get? b = some o → hp2.get? b = some o)
    (un : Un (frs X.stack) [] (upd H1 a (exo a C none)) H2 hp2 h2) (ok : HOk X.prog X.w H2 h2) (sameOs : os2 = os1) (bare : AllBare g2) (ea : H2 a = some (exo a C none)) :
    ∃ (t0 : Addr) (G : Heap), Inv X pins σ (del H2 a) ⟨G, g2, d2, t2, os2⟩ ∧ (∀ b o, G.get? b = some o → h2.get? b = some o) ∧ G.get? a = none ∧
      h2.get? a = some ({ cls := .ref C, dict := none, data := .fields #[.ref t0, .none, .none, .none, .bool false, .none] } : Obj) := by
  obtain ⟨t0, obj⟩ := exo_at ok ea
  have free : H1 a = none := I1.hok.fresh above
  obtain ⟨G, in1, in2⟩ := restrict h2 fun b => decide (b ≠ a)
  have same : ∀ b, b ≠ a → G.get? b = h2.get? b := fun b hb => in1 b (decide_eq_true hb)
  have gone : G.get? a = none := in2 a (by simp)
  have other : ∀ {b : Addr} {o : Obj}, hp.get? b = some o → b ≠ a :=
    fun {_ _} z => Nat.ne_of_lt (Nat.lt_of_lt_of_le (Heap.lt_size z) above)
  have still : ∀ {b : Addr}, b ≠ a → H1 b = none → upd H1 a (exo a C none) b = none := fun {_} hb n => (upd_ne hb).trans n
  have newU : Un (frs X.stack) [] H1 (del H2 a) hp G := {
    keep := fun b o z n hf hx => (same b (other z)).trans (un.keep b o (kept b o z) (still (other z) n) hf hx)
    slot := fun b o z n hf hx => by
      obtain ⟨sl, e⟩ := un.slot b o (kept b o z) (still (other z) n) hf hx
      exact ⟨sl, (same b (other z)).trans e⟩
    free := fun b o z n hx => (del_ne (other z)).trans (un.free b o (kept b o z) (still (other z) n) hx)
    there := fun b o z hx => by
      obtain ⟨u, e⟩ := un.there b o (kept b o z) hx
      exact ⟨u, (same b (other z)).trans e⟩
    tups := fun b xs z => (del_ne (ne_of_none z free)).trans (un.tups b xs ((upd_ne (ne_of_none z free)).trans z))
    frzs := fun b o v z => (del_ne (ne_of_none z free)).trans (un.frzs b o v ((upd_ne (ne_of_none z free)).trans z))
    tbls := fun b ps z => by
      obtain ⟨more, e⟩ := un.tbls b ps ((upd_ne (ne_of_none z free)).trans z)
      exact ⟨more, (del_ne (ne_of_none z free)).trans e⟩ }
  have newOk : HOk X.prog X.w (del H2 a) G := by
    intro b o z
    have hba : b ≠ a := fun e => by
      rw [e, del_same] at z
      cases z
    rw [del_ne hba] at z
    have notOwn : ∀ {c : Addr}, H2 c = some (.own b) → c ≠ a := fun {_} hc => at_ne ea hc exo_own
    refine (ok b o z).stay (fun c v hc y => ?_) (fun c hc => (del_ne (notOwn hc)).trans hc) (fun c xs hc => (del_ne (at_ne ea hc exo_tup)).trans hc)
    have hca : c ≠ a := by
      rcases hc with hc | hc
      · rw [hc]; exact hba
      · exact notOwn hc
    exact (same c hca).trans y
  refine ⟨t0, G, I1.call' (ch := []) sameOs newU newOk bare (fun b z => absurd z (by simp)), fun b o z => ?_, gone, obj⟩
  by_cases hba : b = a
  · rw [hba, gone] at z
    cases z
  · exact (same b hba).symm.trans z
theorem pmk0 {x : Str} {C fI : Addr} {k : Nat} {fd : FuncData} {ps : List Str} {sp : Sp} {e : Expr} {es : List Expr} {ta : TA} {p pos : Pos}
    (T : OexC X.K C) (iC : PySem.W.findIn X.K (.ref C) "__init__" = some (some (.ref fI))) (tI : PySem.W.typeIn X.K (.ref fI) = some (.type "function"))
    (F1 : FnOk X.prog X.w X.K X.mg X.base CX0 k fI fd ps sp) (hr : Room (k + 1) X.A) (hb : Binds X.K fd ps []) (hm : X.mg x = some (.ref C)) (ha : PA X (e :: es) ta) (hg : Gl X x := by rfl)
    (hdb : (x == ("__debug__" : Str)) = false := by decide) (he : starEach (e :: es) X.env = (false, eval e X.env) :: starEach es X.env := by rfl)
    (hpl : (backTo pos (starEach es X.env)).any (·.1) = false := by rfl) : PMk X (.Call (.Name x p) (e :: es) [] pos) (tMk0 C sp ta) := by
  intro pins s σ H Q I h
  obtain ⟨nm, q, N, bs, bm, sn, sub, ab, col, dd, k0, k1, k2, k3, k5, hC, hbm⟩ := T.cls
  refine wpAny_Call_Name_kw (ld_glob I hg hm ?_ hdb)
  refine PySem.W.callWith_K (h₀ := X.base) I.ok.mod.kin T.kC
    (thn (ha.run pos pins s σ H _ I h) fun us s1 ⟨vs, H1, I1, rel, few, want⟩ => ⟨I1.kIn, ?_⟩) he hpl
  show wpAny _ _ (call (.ref C) us) _ _ _
  obtain ⟨hp, g, dr, tk, os⟩ := s1
  have up : hp.objs.size ≤ hp.objs.size + 1 := Nat.le_succ _
  have goal1 := want (hp.objs.size + 1) (I1.hok.fresh up)
  have kept : ∀ b o, hp.get? b = some o → ((hp.push (PySem.W.kdv_tup us)).push (PySem.HandSPX.excO C hp.objs.size)).get? b = some o :=
    fun b o e => Heap.get?_push_of_some _ (Heap.get?_push_of_some _ e)
  have there : ((hp.push (PySem.W.kdv_tup us)).push (PySem.HandSPX.excO C hp.objs.size)).get? (hp.objs.size + 1) = some (PySem.HandSPX.excO C hp.objs.size) := by
    heap_get
  have I2 : Inv X pins σ (upd H1 (hp.objs.size + 1) (exo (hp.objs.size + 1) C none)) ⟨(hp.push (PySem.W.kdv_tup us)).push (PySem.HandSPX.excO C hp.objs.size), g, dr, tk, os⟩ :=
    I1.laid (t' := tk) (o := exo (hp.objs.size + 1) C none) kept up
      (exo_ok there)
  have rel2 : Vals (V.ref (hp.objs.size + 1) :: vs) (Value.ref (hp.objs.size + 1) :: us) := .cons rfl rel
  have len : (Value.ref (hp.objs.size + 1) :: us ++ []).length = ps.length := by
    have z := rel2.length
    rw [F1.len _ _ _ _ goal1] at z
    rw [List.append_nil]
    exact z.symm
  have small : us.length ≤ sizeLine := by
    rw [← Paired.length rel]
    exact Nat.le_trans few (by decide)
  have bind0 := hb _ (Value.ref (hp.objs.size + 1) :: us) I2.kIn len
  rw [List.append_nil] at bind0
  refine wpAny_call (PySem.HandSPX.call_own F.excBase_ValueError (fun Y => PySem.HandSPX.refsVE_contains Y bm hbm) (I1.kIn _ _ hC)
    (PySem.W.looks_findIn I1.kIn iC) (fun self => PySem.W.bind_fn I1.kIn self tI) small
    (codeAny_mono (F1.run _ X.stack _ _ ⟨Value.ref (hp.objs.size + 1) :: us, []⟩ (Value.ref (hp.objs.size + 1) :: us) _ _ (fun _ _ _ => False) (hr.make C us []) (I2.env0.make C us []) bind0 rel2 goal1) ?_))
  intro r s' hq
  match r, hq with
  | .error er, hq => exact (show False from hq).elim
  | .ok (.ret u), hq =>
    obtain ⟨v, H2, os2, bare2, un2, ok2, rv, rfl, ea, q2⟩ := hq
    obtain ⟨h2, g2, d2, t2, os'⟩ := s'
    obtain ⟨t0, G, J, inG, gone, obj⟩ := end_nodict (d2 := d2) (t2 := t2) I1 up kept un2 ok2 os2 bare2 ea
    exact ⟨rv, hp.objs.size + 1, _, _, ⟨G, g2, d2, t2, os'⟩, _, .ref C, none, rfl, J, inG, gone, obj, ⟨rfl, rfl⟩, rfl, rfl, del_same, rfl, bare2, raises_own T.exC T.tyC, q2⟩
theorem del_new {H : Hp} {a : Addr} {o : HO} (h : H a = none) : del (upd H a o) a = H := by
  funext b
  unfold del upd
  by_cases e : b = a
  · rw [if_pos e, e, h]
  · rw [if_neg e, if_neg e]
end
end My

/-! (v,) * k for great k -/
namespace My
open PySem PySem.Spec PyProof.Rows L2
theorem rep_flat1 {α : Type} (v : α) : ∀ n : Nat, (List.replicate n [v]).flatten = List.replicate n v
  | 0 => rfl
  | n + 1 => by rw [List.replicate_succ, List.flatten_cons, rep_flat1 v n, List.replicate_succ]; rfl
def rRepW (K : PySem.W.Frag) : R2 := fun x y H Q => ∃ (a : Addr) (n : Nat) (z : V), x = .ref a ∧ y = .int (n : Int) ∧ SqT K H a [z] ∧ 2 ≤ n ∧ n ≤ 9000 ∧
  ∀ b, H b = none → Q (.ref b) (upd H b (.tup (List.replicate n z)))
set_option maxHeartbeats 4000000 in
theorem op_repW {X : Cx} : OpR X (binaryOp .Mult) (rRepW X.K) := by
  intro pins st σ H x y v u Q I rx ry want
  obtain ⟨a, n, z, rfl, rfl, seq, low, most, q⟩ := want
  cases rx
  obtain ⟨tk, rfl⟩ := ry
  obtain ⟨vals, rel, ⟨⟨cl, dict, data, slots⟩, found, isT, m, isS⟩, small⟩ := I.tuple seq
  simp only at isT isS
  subst isT isS
  obtain ⟨it, rfl⟩ : ∃ it, vals = [it] := by
    have := rel.length
    match vals, this with
    | [it], _ => exact ⟨it, rfl⟩
  have line := sizeLine_eq
  have one : ([it].toArray.size : Nat) = 1 := rfl
  have flatLen : (List.replicate n [it]).flatten.length = n := by rw [rep_flat1, List.length_replicate]
  have flatNat : (n : Int).toNat = n := by omega
  have many : (List.foldl (fun x1 x2 => x1 ++ x2) #[] (List.replicate (n : Int).toNat [it].toArray)).size ≤ sizeLine := by
    rw [size_rep, List.size_toArray, flatNat, flatLen, line]
    omega
  have bound0 : (decide ((n : Int) < -(2 ^ 63)) || decide ((n : Int) ≥ 2 ^ 63)) = false := by
    rw [decide_eq_false (by omega), decide_eq_false (by omega)]
    rfl
  have bound1 : ([it].toArray.isEmpty || (n : Int) == 1) = false := by
    rw [show [it].toArray.isEmpty = false from rfl, Bool.false_or, beq_eq_false_iff_ne]
    omega
  have bound2 : (decide ((n : Int) ≤ 0) || [it].toArray.isEmpty) = false := by
    rw [show [it].toArray.isEmpty = false from rfl, decide_eq_false (by omega)]
    rfl
  have bound3 : ¬ (([it].toArray.size : Nat) : Int) * (n : Int) > (2 ^ 63 - 1) / 8 := by
    rw [one]
    omega
  have bound4 : Builtin.Tuple.tupleTooMany ((([it].toArray.size : Nat) : Int) * (n : Int)) = false := by
    unfold Builtin.Tuple.tupleTooMany
    rw [line, one, decide_eq_false (by omega)]
  have mulled := tuple_mulW a [it].toArray m dict slots (n : Int) tk bound0 bound1 bound2 bound3 bound4 many
  refine wpAny_binaryOp_repeat_ref (T := "tuple") (U := "int") (by decide) ⟨_, found, rfl⟩ (fun s2 => typeIs_int s2 (n : Int) tk)
    noFill_tuple_mul F.fills_int_mul F.slot_int_rmul
    repeat_tuple F.slot_int_index.lookup ?_
  refine call_meets F.slot_int_rmul (typeIs_int st (n : Int) tk) F.entry_int_rmul (F.args_int_rmul_2 _ _)
    (int_rmul_tuple (n : Int) tk a [it].toArray m dict slots) ⟨found, rfl, ⟨_, found, rfl⟩, ?_⟩
  refine call_meets F.slot_tuple_mul ⟨_, found, rfl⟩ F.entry_tuple_mul
    (F.args_tuple_mul_2 _ _) mulled ⟨found, ?_⟩
  rw [size_rep, flatNat, rep_flat1]
  refine ⟨.ref st.heap.objs.size, _, I.laid (t' := st.toks) (o := .tup (List.replicate n z)) (fun b ob q => Heap.get?_push_of_some _ q)
    (Nat.le_refl _) ?_, rfl, q _ (I.hok.fresh (Nat.le_refl _))⟩
  refine ⟨by rw [List.length_replicate, line]; omega, List.replicate n it, ?_, IsTup.new _ _⟩
  have r1 := rel.rep n
  rw [rep_flat1, rep_flat1] at r1
  exact r1
end My

/-! texts of numbers, of rows of words -/
namespace My
open PySem PySem.Spec PyProof.Rows L2
/-- a number's text -/
def sI (n : Int) : Str := Str.ofString (toString n)
theorem tl_pos (k : Nat) : TL.tl (sI (k : Int)) = TL.numL k := TL.tl_num k
theorem tl_neg (k : Nat) : TL.tl (sI (-((k : Int) + 1))) = 45 :: TL.numL (k + 1) := by
  have e : (-((k : Int) + 1)) = Int.negSucc k := by omega
  unfold sI
  rw [e, TL.tl_ofString, Int.toString_eq_repr, Int.repr_eq_if, if_neg (by omega)]
  have e2 : (Int.negSucc k).natAbs = k + 1 := rfl
  rw [show (-(Int.negSucc k)).toNat = k + 1 by omega, String.toList_append, Nat.toList_repr, List.map_append]
  rfl
/-- the signs of a number's text -/
theorem sI_cases (n : Int) : (0 ≤ n ∧ TL.tl (sI n) = TL.numL n.toNat) ∨ (n < 0 ∧ TL.tl (sI n) = 45 :: TL.numL (-n).toNat) := by
  by_cases h : 0 ≤ n
  · refine .inl ⟨h, ?_⟩
    obtain ⟨k, rfl⟩ : ∃ k : Nat, n = (k : Int) := ⟨n.toNat, by omega⟩
    rw [tl_pos, Int.toNat_natCast]
  · refine .inr ⟨by omega, ?_⟩
    obtain ⟨k, rfl⟩ : ∃ k : Nat, n = -((k : Int) + 1) := ⟨(-n - 1).toNat, by omega⟩
    rw [tl_neg, show (-(-((k : Int) + 1))).toNat = k + 1 by omega]
theorem sI_free {n : Int} {s : Nat} (h : s ≠ 45) (h2 : s < 48 ∨ 57 < s) : s ∉ TL.tl (sI n) := by
  rcases sI_cases n with ⟨_, e⟩ | ⟨_, e⟩
  · rw [e]; exact TL.numL_free h2
  · rw [e]
    intro hm
    rcases List.mem_cons.mp hm with z | z
    · exact h z
    · exact TL.numL_free h2 z
theorem sI_ne (n : Int) : TL.tl (sI n) ≠ [] := by
  rcases sI_cases n with ⟨_, e⟩ | ⟨_, e⟩
  · rw [e]; exact TL.numL_ne _
  · rw [e]; exact List.cons_ne_nil _ _
theorem numL_5 {k : Nat} (h : k < 100000) : (TL.numL k).length ≤ 5 := TL.numL_len (by decide) h
theorem numL_pos (k : Nat) : 1 ≤ (TL.numL k).length := List.length_pos_iff.mpr (TL.numL_ne k)
theorem sI_len {n : Int} (h : n.natAbs < 100000) : (sI n).length ≤ 6 := by
  rw [TL.len_tl]
  rcases sI_cases n with ⟨_, e⟩ | ⟨_, e⟩
  · rw [e]
    have := numL_5 (k := n.toNat) (by omega)
    omega
  · rw [e]
    have := numL_5 (k := (-n).toNat) (by omega)
    rw [List.length_cons]
    omega
theorem sI_int {n : Int} (h : n.natAbs < 100000) : intText? (sI n) = some n := by
  rcases sI_cases n with ⟨h0, e⟩ | ⟨h0, e⟩
  · have z := PySem.intText_digits (x := sI n) (by rw [show (sI n).cps.toList = _ from e]; exact TL.numL_digits _) (by rw [show (sI n).cps.toList = _ from e]; exact TL.numL_ne _) (by have := sI_len h; omega)
    rw [show (sI n).cps.toList = _ from e, TL.numL_val] at z
    rw [z]
    congr 1
    omega
  · have z := PySem.intText_neg (x := sI n) e (TL.numL_digits _) (TL.numL_ne _) (by have := sI_len h; omega)
    rw [TL.numL_val] at z
    rw [z]
    congr 1
    omega
/-- the first sign is 0 of 0 alone -/
theorem numL_head : ∀ k : Nat, 0 < k → ∃ c r, TL.numL k = c :: r ∧ c ≠ 48 := by
  intro k
  induction k using Nat.strongRecOn with
  | _ k ih =>
    intro h
    by_cases h1 : k < 10
    · rw [TL.numL_lt h1]
      exact ⟨_, [], rfl, by omega⟩
    · obtain ⟨c, r, e, hc⟩ := ih (k / 10) (by omega) (by omega)
      rw [TL.numL_step (by omega), e]
      exact ⟨c, _, rfl, hc⟩
theorem sw_minus (x : Str) : Txt.startswith x "-" = (match TL.tl x with | c :: _ => decide (c = 45) | [] => false) := by
  unfold Txt.startswith
  have e1 : ("-" : Str).length = 1 := by decide +kernel
  have e2 : ("-" : Str).cps = #[45] := by decide +kernel
  unfold PySem.Builtin.Str.subAt
  rw [e1, e2]
  obtain ⟨⟨l⟩⟩ := x
  cases l with
  | nil => rfl
  | cons c r =>
    show (decide (0 + 1 ≤ (⟨(c :: r).toArray⟩ : Str).length) && ((c :: r).toArray.extract 0 1 == #[45])) = decide (c = 45)
    have a : decide (0 + 1 ≤ (⟨(c :: r).toArray⟩ : Str).length) = true := decide_eq_true (by show 1 ≤ (c :: r).toArray.size; rw [List.size_toArray, List.length_cons]; omega)
    rw [a, Bool.true_and]
    have b : (c :: r).toArray.extract 0 1 = #[c] := by simp
    rw [b]
    by_cases h : c = 45
    · subst h; rfl
    · rw [decide_eq_false h]
      simpa using h
theorem sI_sw (n : Int) : Txt.startswith (sI n) "-" = decide (n < 0) := by
  rw [sw_minus]
  rcases sI_cases n with ⟨h, e⟩ | ⟨h, e⟩
  · rw [e, decide_eq_false (by omega)]
    cases hc : TL.numL n.toNat with
    | nil => rfl
    | cons c r =>
      have := TL.numL_digits n.toNat c (by rw [hc]; exact List.mem_cons_self)
      show decide (c = 45) = false
      exact decide_eq_false (by omega)
  · rw [e, decide_eq_true h]
    rfl
/-! ### rows of words -/
def rowT (ws : List Str) : Str := Txt.join " " ws
def textT (rows : List Str) : Str := Txt.join "\n" rows
theorem tl_blank : TL.tl " " = [32] := by decide +kernel
theorem tl_lf : TL.tl "\n" = [10] := by decide +kernel
theorem split_row {ws : List Str} (hne : ws ≠ []) (h : ∀ w ∈ ws, 32 ∉ TL.tl w) : Txt.split (rowT ws) " " = ws := TL.split_join tl_blank (by decide +kernel) hne h
theorem split_text {rows : List Str} (hne : rows ≠ []) (h : ∀ w ∈ rows, 10 ∉ TL.tl w) : Txt.split (textT rows) "\n" = rows := TL.split_join tl_lf (by decide +kernel) hne h
theorem tl_row (ws : List Str) : TL.tl (rowT ws) = TL.joinL [32] (ws.map TL.tl) := by
  unfold rowT
  rw [TL.join_eq, TL.tl_join, tl_blank]
theorem joinL_mem {y : List Nat} {s : Nat} : ∀ {ps : List (List Nat)}, s ∈ TL.joinL y ps → s ∈ y ∨ ∃ p ∈ ps, s ∈ p
  | [], h => by cases h
  | [p], h => .inr ⟨p, List.mem_cons_self, h⟩
  | p :: q :: r, h => by
    rcases List.mem_append.mp (show s ∈ p ++ (y ++ TL.joinL y (q :: r)) from h) with h | h
    · exact .inr ⟨p, List.mem_cons_self, h⟩
    rcases List.mem_append.mp h with h | h
    · exact .inl h
    · rcases joinL_mem h with h | ⟨p', hp, h⟩
      · exact .inl h
      · exact .inr ⟨p', List.mem_cons_of_mem _ hp, h⟩
theorem row_lf {ws : List Str} (h : ∀ w ∈ ws, 10 ∉ TL.tl w) : 10 ∉ TL.tl (rowT ws) := by
  rw [tl_row]
  intro hm
  rcases joinL_mem hm with z | ⟨p, hp, z⟩
  · exact absurd z (by decide)
  · obtain ⟨w, hw, rfl⟩ := List.mem_map.mp hp
    exact h w hw z
theorem joinL_len {y : List Nat} {k : Nat} : ∀ {ps : List (List Nat)}, (∀ p ∈ ps, p.length ≤ k) → (TL.joinL y ps).length ≤ ps.length * (k + y.length)
  | [], _ => Nat.zero_le _
  | [p], h => by
    have := h p List.mem_cons_self
    show p.length ≤ 1 * _
    omega
  | p :: q :: r, h => by
    have h1 := h p List.mem_cons_self
    have h2 := joinL_len (y := y) (ps := q :: r) fun z hz => h z (List.mem_cons_of_mem _ hz)
    show (p ++ (y ++ TL.joinL y (q :: r))).length ≤ (r.length + 1 + 1) * _
    rw [List.length_append, List.length_append, Nat.succ_mul]
    have h2 : (TL.joinL y (q :: r)).length ≤ (r.length + 1) * (k + y.length) := h2
    omega
theorem row_len {ws : List Str} {k : Nat} (h : ∀ w ∈ ws, w.length ≤ k) : (rowT ws).length ≤ ws.length * (k + 1) := by
  rw [TL.len_tl, tl_row]
  have := joinL_len (y := [32]) (k := k) (ps := ws.map TL.tl) fun p hp => by
    obtain ⟨w, hw, rfl⟩ := List.mem_map.mp hp
    rw [← TL.len_tl]
    exact h w hw
  rw [List.length_map] at this
  exact this
theorem text_len {ws : List Str} {k : Nat} (h : ∀ w ∈ ws, w.length ≤ k) : (textT ws).length ≤ ws.length * (k + 1) := by
  unfold textT
  rw [TL.join_eq, TL.len_tl, TL.tl_join, tl_lf]
  have := joinL_len (y := [10]) (k := k) (ps := ws.map TL.tl) fun p hp => by
    obtain ⟨w, hw, rfl⟩ := List.mem_map.mp hp
    rw [← TL.len_tl]
    exact h w hw
  rw [List.length_map] at this
  exact this
theorem sum_len {ws : List Str} {k : Nat} (h : ∀ w ∈ ws, w.length ≤ k) : (ws.map (·.length)).sum ≤ ws.length * k := by
  induction ws with
  | nil => exact Nat.zero_le _
  | cons w r ih =>
    rw [List.map_cons, List.sum_cons, List.length_cons, Nat.succ_mul]
    have := h w List.mem_cons_self
    have := ih fun x hx => h x (List.mem_cons_of_mem _ hx)
    omega
/-! ### the rows of a coder's text -/
theorem log_ok {n : Int} (h : n.natAbs < 100000) : n.natAbs.log2 < 1920 := by
  have h2 : n.natAbs < 2 ^ 64 := by omega
  exact Nat.lt_trans (PySem.Flt.log2_lt_of (by decide) h2) (by decide)
theorem tl_empty : TL.tl Str.empty = [] := rfl
theorem row_pre {w u : Str} (e : TL.tl u = TL.tl w ++ [32]) {ws : List Str} (h : ws ≠ []) : u ++ rowT ws = rowT (w :: ws) := by
  refine TL.ext_tl ?_
  rw [TL.tl_append, tl_row, tl_row, e]
  cases ws with
  | nil => exact absurd rfl h
  | cons v r =>
    show (TL.tl w ++ [32]) ++ TL.joinL [32] (TL.tl v :: r.map TL.tl) = TL.tl w ++ ([32] ++ TL.joinL [32] (TL.tl v :: r.map TL.tl))
    rw [List.append_assoc]
theorem empty_pre (x : Str) : Str.empty ++ x = x := TL.ext_tl (by rw [TL.tl_append, tl_empty]; rfl)
theorem row_one (x : Str) : rowT [x] = x := TL.ext_tl (by rw [tl_row]; rfl)
theorem row_end {x y : Str} (ws : List Str) (z : Str) (hy : TL.tl y = [32]) (h : x = rowT ws) (hne : ws ≠ []) : (x ++ y) ++ z = rowT (ws ++ [z]) := by
  subst h
  refine TL.ext_tl ?_
  rw [TL.tl_append, TL.tl_append, tl_row, tl_row, hy]
  induction ws with
  | nil => exact absurd rfl hne
  | cons v r ih =>
    cases r with
    | nil =>
      show (TL.tl v ++ [32]) ++ TL.tl z = TL.tl v ++ ([32] ++ TL.tl z)
      rw [List.append_assoc]
    | cons u r =>
      have ih := ih (List.cons_ne_nil _ _)
      show ((TL.tl v ++ ([32] ++ TL.joinL [32] (TL.tl u :: r.map TL.tl))) ++ [32]) ++ TL.tl z = TL.tl v ++ ([32] ++ TL.joinL [32] ((u :: r ++ [z]).map TL.tl))
      rw [← ih]
      simp only [List.append_assoc, List.map_cons]
theorem pre_levels : TL.tl "levels " = TL.tl "levels" ++ [32] := by decide +kernel
theorem pre_steps : TL.tl "steps " = TL.tl "steps" ++ [32] := by decide +kernel
theorem pre_move : TL.tl "move " = TL.tl "move" ++ [32] := by decide +kernel
def levW (a b c : Int) : List Str := ["levels", sI a, sI b, sI c]
def stepW (ss : List Int) : List Str := "steps" :: ss.map sI
def movW (p : Int × Int) : List Str := ["move", sI p.1, sI p.2]
theorem lev_f (a b c : Int) : (((((Str.empty ++ "levels ") ++ sI a) ++ " ") ++ sI b) ++ " ") ++ sI c = rowT (levW a b c) := by
  have h1 : (Str.empty ++ "levels ") ++ sI a = rowT ["levels", sI a] := by
    rw [empty_pre, ← row_one (sI a), row_pre pre_levels (by simp), row_one]
  exact row_end ["levels", sI a, sI b] _ tl_blank (row_end ["levels", sI a] _ tl_blank h1 (by simp)) (by simp)
theorem lev_l (a b c : Int) : ("levels " : Str) ++ rowT [sI a, sI b, sI c] = rowT (levW a b c) := row_pre pre_levels (by simp)
theorem step_l {ss : List Int} (h : ss ≠ []) : ("steps " : Str) ++ rowT (ss.map sI) = rowT (stepW ss) := row_pre pre_steps (fun z => h (List.map_eq_nil_iff.mp z))
theorem step_f {ss : List Int} (h : ss ≠ []) : (Str.empty ++ "steps ") ++ rowT (ss.map sI) = rowT (stepW ss) := by rw [empty_pre]; exact step_l h
theorem mov_l (p : Int × Int) : ((("move " : Str) ++ sI p.1) ++ " ") ++ sI p.2 = rowT (movW p) := by
  have h1 : ("move " : Str) ++ sI p.1 = rowT ["move", sI p.1] := by
    rw [← row_one (sI p.1), row_pre pre_move (by simp), row_one]
  exact row_end ["move", sI p.1] _ tl_blank h1 (by simp)
theorem mov_f (p : Int × Int) : (((Str.empty ++ "move ") ++ sI p.1) ++ " ") ++ sI p.2 = rowT (movW p) := by rw [empty_pre]; exact mov_l p
theorem app_len {a b : Str} {i j : Nat} (ha : a.length ≤ i) (hb : b.length ≤ j) : (a ++ b).length ≤ i + j := by
  rw [strLen_append]
  omega
theorem line_of {a : Str} {i : Nat} (ha : a.length ≤ i) (h : i ≤ 1000000) : a.length ≤ sizeLine := Nat.le_trans (Nat.le_trans ha h) (by decide)
theorem len_e : (Str.empty : Str).length ≤ 0 := Nat.le_refl _
theorem len_b : (" " : Str).length ≤ 1 := by decide +kernel
theorem len_levels : ("levels " : Str).length ≤ 7 := by decide +kernel
theorem len_steps : ("steps " : Str).length ≤ 6 := by decide +kernel
theorem len_move : ("move " : Str).length ≤ 5 := by decide +kernel
theorem words_len {ws : List Int} (h : ∀ n ∈ ws, n.natAbs < 100000) : ∀ w ∈ ws.map sI, w.length ≤ 6 := fun w hw => by
  obtain ⟨n, hn, rfl⟩ := List.mem_map.mp hw
  exact sI_len (h n hn)
/-- an f-string of several parts, by a name -/
def tJoin (ts : List TE) : TE := fun σ H Q => tJs ts Str.empty σ H fun out H1 => Q (.str out) H1
theorem pe_joinedN {X : Cx} {v1 v2 : Expr} {rest : List Expr} {ts : List TE} {pos : Pos} (h : PJ X (v1 :: v2 :: rest) ts) : PE X (.JoinedStr (v1 :: v2 :: rest) pos) (tJoin ts) := pe_joined h
end My

/-! a number by its form: of any word -/
namespace My
open PySem PySem.Spec PyProof.Rows L2
theorem dv_snoc (r : List Nat) (d : Nat) : PySem.NumText.digitsVal (r ++ [d]) = PySem.NumText.digitsVal r * 10 + (d - 48) := by
  unfold PySem.NumText.digitsVal
  rw [List.foldl_append]
  rfl
theorem dv_pos {c : Nat} (hc : 49 ≤ c) : ∀ (r : List Nat) (l : Nat), l = r.length → 1 ≤ PySem.NumText.digitsVal (c :: r) := by
  intro r l
  induction l generalizing r with
  | zero =>
    intro h
    have : r = [] := List.length_eq_zero_iff.mp h.symm
    subst this
    show 1 ≤ 0 * 10 + (c - 48)
    omega
  | succ l ih =>
    intro h
    have hne : r ≠ [] := fun e => by rw [e] at h; cases h
    have e := List.dropLast_concat_getLast hne
    have hl : l = r.dropLast.length := by rw [List.length_dropLast]; omega
    have := ih r.dropLast hl
    rw [← e, show c :: (r.dropLast ++ [r.getLast hne]) = (c :: r.dropLast) ++ [r.getLast hne] from rfl, dv_snoc]
    omega
/-- digits without a leading 0 are a number's own -/
theorem numL_back : ∀ (l : Nat) (c : Nat) (r : List Nat), l = r.length → NumText.AllDigits (c :: r) → c ≠ 48 → TL.numL (PySem.NumText.digitsVal (c :: r)) = c :: r := by
  intro l
  induction l with
  | zero =>
    intro c r h hd hc
    have : r = [] := List.length_eq_zero_iff.mp h.symm
    subst this
    have h1 := hd c List.mem_cons_self
    have e : PySem.NumText.digitsVal [c] = c - 48 := by
      show 0 * 10 + (c - 48) = c - 48
      omega
    rw [e, TL.numL_lt (by omega), show 48 + (c - 48) = c by omega]
  | succ l ih =>
    intro c r h hd hc
    have hne : r ≠ [] := fun e => by rw [e] at h; cases h
    have e := List.dropLast_concat_getLast hne
    have hl : l = r.dropLast.length := by rw [List.length_dropLast]; omega
    have hd1 : NumText.AllDigits (c :: r.dropLast) := fun x hx => by
      rcases List.mem_cons.mp hx with z | z
      · exact hd x (by rw [z]; exact List.mem_cons_self)
      · exact hd x (List.mem_cons_of_mem _ (List.dropLast_subset _ z))
    have i := ih c r.dropLast hl hd1 hc
    have hg := hd (r.getLast hne) (List.mem_cons_of_mem _ (List.getLast_mem hne))
    have hc1 := hd c List.mem_cons_self
    have p := dv_pos (c := c) (by omega) r.dropLast _ rfl
    rw [← e, show c :: (r.dropLast ++ [r.getLast hne]) = (c :: r.dropLast) ++ [r.getLast hne] from rfl, dv_snoc]
    generalize r.getLast hne = g at hg
    generalize PySem.NumText.digitsVal (c :: r.dropLast) = v at i p
    rw [TL.numL_step (by omega), show (v * 10 + (g - 48)) / 10 = v by omega, show 48 + (v * 10 + (g - 48)) % 10 = g by omega, i]
theorem dv_lt : ∀ (l : Nat) (r : List Nat), l = r.length → NumText.AllDigits r → PySem.NumText.digitsVal r < 10 ^ l := by
  intro l
  induction l with
  | zero =>
    intro r h _
    have : r = [] := List.length_eq_zero_iff.mp h.symm
    subst this
    decide
  | succ l ih =>
    intro r h hd
    have hne : r ≠ [] := fun e => by rw [e] at h; cases h
    have e := List.dropLast_concat_getLast hne
    have hl : l = r.dropLast.length := by rw [List.length_dropLast]; omega
    have i := ih r.dropLast hl fun x hx => hd x (List.dropLast_subset _ hx)
    have hg := hd (r.getLast hne) (List.getLast_mem hne)
    rw [← e, dv_snoc, Nat.pow_succ]
    omega
theorem dv_5 {r : List Nat} (h : r.length ≤ 5) (hd : NumText.AllDigits r) : PySem.NumText.digitsVal r < 100000 := by
  have := dv_lt _ r rfl hd
  have h2 : 10 ^ r.length ≤ 10 ^ 5 := Nat.pow_le_pow_right (by decide) h
  omega
/-- a number's own text -/
def IsNum (w : Str) : Prop := ∃ n : Int, n.natAbs < 100000 ∧ w = sI n
theorem sI_tl_inj {w : Str} {n : Int} (h : TL.tl w = TL.tl (sI n)) : w = sI n := TL.ext_tl h
/-- of a word with `-`: the signs behind it -/
theorem num_neg {w : Str} {ds : List Nat} (hw : TL.tl w = 45 :: ds) : IsNum w ↔ (1 ≤ ds.length ∧ ds.length ≤ 5) ∧ NumText.AllDigits ds ∧ ds.head? ≠ some 48 := by
  constructor
  · rintro ⟨n, hn, rfl⟩
    rcases sI_cases n with ⟨h, e⟩ | ⟨h, e⟩
    · rw [e] at hw
      have : 45 ∈ TL.numL n.toNat := by rw [hw]; exact List.mem_cons_self
      exact absurd this (TL.numL_free (by decide))
    · rw [e] at hw
      injection hw with _ hw
      subst hw
      refine ⟨⟨numL_pos _, numL_5 (by omega)⟩, TL.numL_digits _, ?_⟩
      obtain ⟨c, r, e2, hc⟩ := numL_head (-n).toNat (by omega)
      rw [e2]
      intro z
      exact hc (Option.some.inj z)
  · rintro ⟨⟨h1, h5⟩, hd, hh⟩
    cases ds with
    | nil => exact absurd h1 (by decide)
    | cons c r =>
      have hc : c ≠ 48 := fun e => hh (by rw [e]; rfl)
      have b := numL_back _ c r rfl hd hc
      have v := dv_5 h5 hd
      have p := dv_pos (c := c) (by have := hd c List.mem_cons_self; omega) r _ rfl
      refine ⟨-((PySem.NumText.digitsVal (c :: r) : Nat) : Int), by omega, sI_tl_inj ?_⟩
      obtain ⟨k, hk⟩ : ∃ k, PySem.NumText.digitsVal (c :: r) = k + 1 := ⟨PySem.NumText.digitsVal (c :: r) - 1, by omega⟩
      rw [hw, hk, show (-((k + 1 : Nat) : Int)) = -((k : Int) + 1) by omega, tl_neg, ← hk, b]
theorem num_pos {w : Str} (hw : ∀ ds, TL.tl w ≠ 45 :: ds) : IsNum w ↔ (1 ≤ (TL.tl w).length ∧ (TL.tl w).length ≤ 5) ∧ NumText.AllDigits (TL.tl w) ∧ (w = "0" ∨ (TL.tl w).head? ≠ some 48) := by
  have e0 : TL.tl (sI 0) = [48] := by
    have e : TL.tl (sI 0) = TL.numL 0 := tl_pos 0
    rw [e, TL.numL_lt (by decide)]
  have z0 : sI 0 = "0" := TL.ext_tl (by rw [e0]; decide +kernel)
  constructor
  · rintro ⟨n, hn, rfl⟩
    rcases sI_cases n with ⟨h, e⟩ | ⟨h, e⟩
    · rw [e]
      refine ⟨⟨numL_pos _, numL_5 (by omega)⟩, TL.numL_digits _, ?_⟩
      by_cases h0 : n = 0
      · left
        rw [h0, z0]
      · right
        obtain ⟨c, r, e2, hc⟩ := numL_head n.toNat (by omega)
        rw [e2]
        intro z
        exact hc (Option.some.inj z)
    · exact absurd e (hw _)
  · rintro ⟨⟨h1, h5⟩, hd, h0 | hh⟩
    · exact ⟨0, by decide, by rw [h0, z0]⟩
    · cases hl : TL.tl w with
      | nil => rw [hl] at h1; exact absurd h1 (by decide)
      | cons c r =>
        rw [hl] at h5 hd hh
        have hc : c ≠ 48 := fun e => hh (by rw [e]; rfl)
        have b := numL_back _ c r rfl hd hc
        have v := dv_5 h5 hd
        refine ⟨((PySem.NumText.digitsVal (c :: r) : Nat) : Int), by omega, sI_tl_inj ?_⟩
        rw [hl, tl_pos, b]
theorem sI_inj {a b : Int} (ha : a.natAbs < 100000) (hb : b.natAbs < 100000) (h : sI a = sI b) : a = b := by
  have e1 := sI_int ha
  rw [h, sI_int hb] at e1
  exact (Option.some.inj e1).symm
end My

/-! a text times a number; list.index within a comprehension -/
namespace My
open PySem PySem.Spec PyProof.Rows L2
theorem fold_size {a : Array Nat} : ∀ (n : Nat) (b : Array Nat), ((List.replicate n a).foldl (fun x y => x ++ y) b).size = b.size + n * a.size
  | 0, b => by simp
  | n + 1, b => by
    rw [List.replicate_succ, List.foldl_cons, fold_size n, Array.size_append, Nat.succ_mul]
    omega
def rRepS : R2 := fun x y H Q => ∃ (z : Str) (n : Nat), x = .str z ∧ y = .int (n : Int) ∧ 2 ≤ n ∧ 1 ≤ z.length ∧ z.length * n ≤ 1000000 ∧ ∀ u : Str, u.length = z.length * n → Q (.str u) H
theorem op_repS {X : Cx} : OpR X (binaryOp .Mult) rRepS := by
  intro pins s σ H x y v u Q I rx ry h
  obtain ⟨z, n, rfl, rfl, h2, h1, hz, q⟩ := h
  obtain ⟨t, rfl⟩ := rx
  obtain ⟨t', rfl⟩ := ry
  have hn : n ≤ 1000000 := Nat.le_trans (Nat.le_mul_of_pos_left n h1) hz
  have e1 : ¬ ((n : Int) < 1) := by omega
  have e2 : ((n : Int) == 1 || z.length == 0) = false := by
    rw [Bool.or_eq_false_iff]
    exact ⟨beq_eq_false_iff_ne.mpr (by omega), beq_eq_false_iff_ne.mpr (by omega)⟩
  have hsz : ((List.replicate (n : Int).toNat z.cps).foldl (fun x y => x ++ y) #[]).size = z.length * n := by
    rw [fold_size, Int.toNat_natCast]
    show 0 + n * z.length = z.length * n
    rw [Nat.zero_add, Nat.mul_comm]
  refine PySem.P.mul_str (x := z) (n := (n : Int)) ?_ (fun _ _ => ?_) (fun _ _ => ?_) ?_
  · rw [decide_eq_false (by omega), decide_eq_false (by omega)]
    rfl
  · have h : (z.length : Int) ≤ (2 ^ 63 - 1) / (n : Int) := by
      rw [Int.le_ediv_iff_mul_le (by omega)]
      have : ((z.length * n : Nat) : Int) ≤ 1000000 := by omega
      rw [Int.natCast_mul] at this
      omega
    omega
  · unfold PySem.Builtin.Str.tooLong
    refine decide_eq_false ?_
    rw [Int.toNat_natCast]
    have : (1000000 : Nat) ≤ sizeLine := by decide
    omega
  · rw [if_neg e1, if_neg (by rw [e2]; decide)]
    refine ⟨?_, ⟨.str _, H, I.tok _, ⟨_, rfl⟩, q _ hsz⟩⟩
    show ((List.replicate (n : Int).toNat z.cps).foldl (fun x y => x ++ y) #[]).size ≤ sizeLine
    rw [hsz]
    exact Nat.le_trans hz (by decide)
theorem mt_indexK {X : Cx} {K : PySem.W.Frag} (h : X.K = K := by rfl) : MtR X "list.index" (rIndex K) := by
  subst h
  exact mt_index
theorem op_in_seqK {X : Cx} {K : PySem.W.Frag} (h : X.K = K := by rfl) : OpR X (compareOp .In) (rIn K false) := by
  subst h
  exact op_in_seq
theorem op_notIn_seqK {X : Cx} {K : PySem.W.Frag} (h : X.K = K := by rfl) : OpR X (compareOp .NotIn) (rIn K true) := by
  subst h
  exact op_notIn_seq
end My

namespace My
open PySem PySem.Spec PyProof.Rows L2
def top (i : Nat) : Stmt := PySem.Challenge.pw_stepsound_k27_whole_texts_of_rows.main.body.getD i (.Pass ⟨0, 0, 0, 0⟩)
abbrev s_is_integer : Stmt := top 5
abbrev s_is_between : Stmt := top 6
abbrev s_is_pair : Stmt := top 7
abbrev s_is_code : Stmt := top 8
abbrev s_need_row : Stmt := top 9
abbrev s_need_coder : Stmt := top 11
abbrev s_first_fault : Stmt := top 12
abbrev s_fault_of_steps : Stmt := top 13
abbrev s_fault_of_moves : Stmt := top 14
abbrev s_is_tuple_of : Stmt := top 15
abbrev s_is_move : Stmt := top 16
abbrev s_is_fade : Stmt := top 17
abbrev s_row_text : Stmt := top 20
abbrev s_read_row : Stmt := top 21
abbrev s_spaced : Stmt := top 22
abbrev s_need_text : Stmt := top 23
abbrev s_need_no_empty_word : Stmt := top 24
abbrev s_is_number : Stmt := top 25
abbrev s_law_begun : Stmt := top 27
abbrev s_law_next : Stmt := top 28
abbrev s_law_coder : Stmt := top 29
abbrev s_law_row : Stmt := top 30
abbrev s_law_outcome : Stmt := top 31
abbrev s_law_due : Stmt := top 32
abbrev s_law_written : Stmt := top 33
abbrev s_law_bent : Stmt := top 34
abbrev s_law : Stmt := top 35
abbrev si_BadRow : Stmt := inClass (top 2) 0
theorem sci_BadRow : FnScope ["self", "row", "word"] ["self", "row", "word"] (defScope si_BadRow) := ⟨rfl, rfl, rfl, by decide +kernel, rfl, by decide +kernel, by decide +kernel⟩
theorem sc_is_integer : FnScope ["thing"] ["thing"] (defScope s_is_integer) := ⟨rfl, rfl, rfl, by decide +kernel, rfl, by decide +kernel, by decide +kernel⟩
theorem sc_is_between : FnScope ["thing", "least", "most"] ["thing", "least", "most"] (defScope s_is_between) := ⟨rfl, rfl, rfl, by decide +kernel, rfl, by decide +kernel, by decide +kernel⟩
theorem sc_is_pair : FnScope ["thing"] ["thing"] (defScope s_is_pair) := ⟨rfl, rfl, rfl, by decide +kernel, rfl, by decide +kernel, by decide +kernel⟩
theorem sc_is_code : FnScope ["coder", "thing"] ["coder", "thing"] (defScope s_is_code) := ⟨rfl, rfl, rfl, by decide +kernel, rfl, by decide +kernel, by decide +kernel⟩
theorem sc_need_row : FnScope ["coder", "thing", "index", "code"] ["coder", "thing"] (defScope s_need_row) := ⟨rfl, rfl, rfl, by decide +kernel, rfl, by decide +kernel, by decide +kernel⟩
theorem sc_need_coder : FnScope ["thing", "fault"] ["thing"] (defScope s_need_coder) := ⟨rfl, rfl, rfl, by decide +kernel, rfl, by decide +kernel, by decide +kernel⟩
theorem sc_first_fault : FnScope ["thing", "low", "high", "steps", "moves", "fade", "fault"] ["thing"] (defScope s_first_fault) := ⟨rfl, rfl, rfl, by decide +kernel, rfl, by decide +kernel, by decide +kernel⟩
theorem sc_fault_of_steps : FnScope ["steps", "index", "step"] ["steps"] (defScope s_fault_of_steps) := ⟨rfl, rfl, rfl, by decide +kernel, rfl, by decide +kernel, by decide +kernel⟩
theorem sc_fault_of_moves : FnScope ["moves", "index", "move"] ["moves"] (defScope s_fault_of_moves) := ⟨rfl, rfl, rfl, by decide +kernel, rfl, by decide +kernel, by decide +kernel⟩
theorem sc_is_tuple_of : FnScope ["thing", "least", "most"] ["thing", "least", "most"] (defScope s_is_tuple_of) := ⟨rfl, rfl, rfl, by decide +kernel, rfl, by decide +kernel, by decide +kernel⟩
theorem sc_is_move : FnScope ["thing"] ["thing"] (defScope s_is_move) := ⟨rfl, rfl, rfl, by decide +kernel, rfl, by decide +kernel, by decide +kernel⟩
theorem sc_is_fade : FnScope ["thing"] ["thing"] (defScope s_is_fade) := ⟨rfl, rfl, rfl, by decide +kernel, rfl, by decide +kernel, by decide +kernel⟩
theorem sc_row_text : FnScope ["coder", "row"] ["coder", "row"] (defScope s_row_text) := ⟨rfl, rfl, rfl, by decide +kernel, rfl, by decide +kernel, by decide +kernel⟩
theorem sc_read_row : FnScope ["coder", "text", "words", "index", "word"] ["coder", "text"] (defScope s_read_row) := ⟨rfl, rfl, rfl, by decide +kernel, rfl, by decide +kernel, by decide +kernel⟩
theorem sc_spaced : FnScope ["numbers", "number"] ["numbers"] (defScope s_spaced) := ⟨rfl, rfl, rfl, by decide +kernel, rfl, by decide +kernel, by decide +kernel⟩
theorem sc_need_text : FnScope ["thing"] ["thing"] (defScope s_need_text) := ⟨rfl, rfl, rfl, by decide +kernel, rfl, by decide +kernel, by decide +kernel⟩
theorem sc_need_no_empty_word : FnScope ["row", "words"] ["row", "words"] (defScope s_need_no_empty_word) := ⟨rfl, rfl, rfl, by decide +kernel, rfl, by decide +kernel, by decide +kernel⟩
theorem sc_is_number : FnScope ["word", "digits", "sign"] ["word"] (defScope s_is_number) := ⟨rfl, rfl, rfl, by decide +kernel, rfl, by decide +kernel, by decide +kernel⟩
theorem sc_law_begun : FnScope ["script", "cell"] ["script"] (defScope s_law_begun) := ⟨rfl, rfl, rfl, by decide +kernel, rfl, by decide +kernel, by decide +kernel⟩
theorem sc_law_next : FnScope ["m", "many", "rest", "k", "cell", "mixed"] ["m", "many"] (defScope s_law_next) := ⟨rfl, rfl, rfl, by decide +kernel, rfl, by decide +kernel, by decide +kernel⟩
theorem sc_law_coder : FnScope ["m", "wide", "places", "codes", "low", "high", "k", "steps", "moves", "fade"] ["m", "wide", "places", "codes"] (defScope s_law_coder) := ⟨rfl, rfl, rfl, by decide +kernel, rfl, by decide +kernel, by decide +kernel⟩
theorem sc_law_row : FnScope ["m", "coder", "many", "k"] ["m", "coder", "many"] (defScope s_law_row) := ⟨rfl, rfl, rfl, by decide +kernel, rfl, by decide +kernel, by decide +kernel⟩
theorem sc_law_outcome : FnScope ["coder", "text", "found", "e"] ["coder", "text"] (defScope s_law_outcome) := ⟨rfl, rfl, rfl, by decide +kernel, rfl, by decide +kernel, by decide +kernel⟩
theorem sc_law_due : FnScope ["coder", "text", "words", "codes", "wrong", "code", "k", "word"] ["coder", "text"] (defScope s_law_due) := ⟨rfl, rfl, rfl, by decide +kernel, rfl, by decide +kernel, by decide +kernel⟩
theorem sc_law_written : FnScope ["coder", "row", "found", "e"] ["coder", "row"] (defScope s_law_written) := ⟨rfl, rfl, rfl, by decide +kernel, rfl, by decide +kernel, by decide +kernel⟩
theorem sc_law_bent : FnScope ["m", "text", "way", "place", "sign", "kept", "words", "at", "some"] ["m", "text"] (defScope s_law_bent) := ⟨rfl, rfl, rfl, by decide +kernel, rfl, by decide +kernel, by decide +kernel⟩
theorem sc_law : FnScope ["script", "m", "turn", "coder", "row", "text", "k", "thing", "many", "code"] ["script"] (defScope s_law) := ⟨rfl, rfl, rfl, by decide +kernel, rfl, by decide +kernel, by decide +kernel⟩
structure Txt0 (K : PySem.W.Frag) (mg : Str → Option Value) where
  f_is_integer : Addr
  d_is_integer : FuncData
  F_is_integer : Fun K "is_integer" "is_integer" s_is_integer f_is_integer d_is_integer
  b_is_integer : Binds K d_is_integer ["thing"] []
  g_is_integer : mg "is_integer" = some (.ref f_is_integer)
  f_is_between : Addr
  d_is_between : FuncData
  F_is_between : Fun K "is_between" "is_between" s_is_between f_is_between d_is_between
  b_is_between : Binds K d_is_between ["thing", "least", "most"] []
  g_is_between : mg "is_between" = some (.ref f_is_between)
  f_is_pair : Addr
  d_is_pair : FuncData
  F_is_pair : Fun K "is_pair" "is_pair" s_is_pair f_is_pair d_is_pair
  b_is_pair : Binds K d_is_pair ["thing"] []
  g_is_pair : mg "is_pair" = some (.ref f_is_pair)
  f_is_code : Addr
  d_is_code : FuncData
  F_is_code : Fun K "is_code" "is_code" s_is_code f_is_code d_is_code
  b_is_code : Binds K d_is_code ["coder", "thing"] []
  g_is_code : mg "is_code" = some (.ref f_is_code)
  f_need_row : Addr
  d_need_row : FuncData
  F_need_row : Fun K "need_row" "need_row" s_need_row f_need_row d_need_row
  b_need_row : Binds K d_need_row ["coder", "thing"] []
  g_need_row : mg "need_row" = some (.ref f_need_row)
  f_need_coder : Addr
  d_need_coder : FuncData
  F_need_coder : Fun K "need_coder" "need_coder" s_need_coder f_need_coder d_need_coder
  b_need_coder : Binds K d_need_coder ["thing"] []
  g_need_coder : mg "need_coder" = some (.ref f_need_coder)
  f__first_fault : Addr
  d__first_fault : FuncData
  F__first_fault : Fun K "_first_fault" "_first_fault" s_first_fault f__first_fault d__first_fault
  b__first_fault : Binds K d__first_fault ["thing"] []
  g__first_fault : mg "_first_fault" = some (.ref f__first_fault)
  f__fault_of_steps : Addr
  d__fault_of_steps : FuncData
  F__fault_of_steps : Fun K "_fault_of_steps" "_fault_of_steps" s_fault_of_steps f__fault_of_steps d__fault_of_steps
  b__fault_of_steps : Binds K d__fault_of_steps ["steps"] []
  g__fault_of_steps : mg "_fault_of_steps" = some (.ref f__fault_of_steps)
  f__fault_of_moves : Addr
  d__fault_of_moves : FuncData
  F__fault_of_moves : Fun K "_fault_of_moves" "_fault_of_moves" s_fault_of_moves f__fault_of_moves d__fault_of_moves
  b__fault_of_moves : Binds K d__fault_of_moves ["moves"] []
  g__fault_of_moves : mg "_fault_of_moves" = some (.ref f__fault_of_moves)
  f__is_tuple_of : Addr
  d__is_tuple_of : FuncData
  F__is_tuple_of : Fun K "_is_tuple_of" "_is_tuple_of" s_is_tuple_of f__is_tuple_of d__is_tuple_of
  b__is_tuple_of : Binds K d__is_tuple_of ["thing", "least", "most"] []
  g__is_tuple_of : mg "_is_tuple_of" = some (.ref f__is_tuple_of)
structure Txt1 (K : PySem.W.Frag) (mg : Str → Option Value) extends Txt0 K mg where
  f__is_move : Addr
  d__is_move : FuncData
  F__is_move : Fun K "_is_move" "_is_move" s_is_move f__is_move d__is_move
  b__is_move : Binds K d__is_move ["thing"] []
  g__is_move : mg "_is_move" = some (.ref f__is_move)
  f__is_fade : Addr
  d__is_fade : FuncData
  F__is_fade : Fun K "_is_fade" "_is_fade" s_is_fade f__is_fade d__is_fade
  b__is_fade : Binds K d__is_fade ["thing"] []
  g__is_fade : mg "_is_fade" = some (.ref f__is_fade)
  f_row_text : Addr
  d_row_text : FuncData
  F_row_text : Fun K "row_text" "row_text" s_row_text f_row_text d_row_text
  b_row_text : Binds K d_row_text ["coder", "row"] []
  g_row_text : mg "row_text" = some (.ref f_row_text)
  f_read_row : Addr
  d_read_row : FuncData
  F_read_row : Fun K "read_row" "read_row" s_read_row f_read_row d_read_row
  b_read_row : Binds K d_read_row ["coder", "text"] []
  g_read_row : mg "read_row" = some (.ref f_read_row)
  f__spaced : Addr
  d__spaced : FuncData
  F__spaced : Fun K "_spaced" "_spaced" s_spaced f__spaced d__spaced
  b__spaced : Binds K d__spaced ["numbers"] []
  g__spaced : mg "_spaced" = some (.ref f__spaced)
  f__need_text : Addr
  d__need_text : FuncData
  F__need_text : Fun K "_need_text" "_need_text" s_need_text f__need_text d__need_text
  b__need_text : Binds K d__need_text ["thing"] []
  g__need_text : mg "_need_text" = some (.ref f__need_text)
  f__need_no_empty_word : Addr
  d__need_no_empty_word : FuncData
  F__need_no_empty_word : Fun K "_need_no_empty_word" "_need_no_empty_word" s_need_no_empty_word f__need_no_empty_word d__need_no_empty_word
  b__need_no_empty_word : Binds K d__need_no_empty_word ["row", "words"] []
  g__need_no_empty_word : mg "_need_no_empty_word" = some (.ref f__need_no_empty_word)
  f__is_number : Addr
  d__is_number : FuncData
  F__is_number : Fun K "_is_number" "_is_number" s_is_number f__is_number d__is_number
  b__is_number : Binds K d__is_number ["word"] []
  g__is_number : mg "_is_number" = some (.ref f__is_number)
  f__law_begun : Addr
  d__law_begun : FuncData
  F__law_begun : Fun K "_law_begun" "_law_begun" s_law_begun f__law_begun d__law_begun
  b__law_begun : Binds K d__law_begun ["script"] []
  g__law_begun : mg "_law_begun" = some (.ref f__law_begun)
  f__law_next : Addr
  d__law_next : FuncData
  F__law_next : Fun K "_law_next" "_law_next" s_law_next f__law_next d__law_next
  b__law_next : Binds K d__law_next ["m", "many"] []
  g__law_next : mg "_law_next" = some (.ref f__law_next)
structure Txt2 (K : PySem.W.Frag) (mg : Str → Option Value) extends Txt1 K mg where
  f__law_coder : Addr
  d__law_coder : FuncData
  F__law_coder : Fun K "_law_coder" "_law_coder" s_law_coder f__law_coder d__law_coder
  b__law_coder : Binds K d__law_coder ["m", "wide", "places", "codes"] []
  g__law_coder : mg "_law_coder" = some (.ref f__law_coder)
  f__law_row : Addr
  d__law_row : FuncData
  F__law_row : Fun K "_law_row" "_law_row" s_law_row f__law_row d__law_row
  b__law_row : Binds K d__law_row ["m", "coder", "many"] []
  g__law_row : mg "_law_row" = some (.ref f__law_row)
  f__law_outcome : Addr
  d__law_outcome : FuncData
  F__law_outcome : Fun K "_law_outcome" "_law_outcome" s_law_outcome f__law_outcome d__law_outcome
  b__law_outcome : Binds K d__law_outcome ["coder", "text"] []
  g__law_outcome : mg "_law_outcome" = some (.ref f__law_outcome)
  f__law_due : Addr
  d__law_due : FuncData
  F__law_due : Fun K "_law_due" "_law_due" s_law_due f__law_due d__law_due
  b__law_due : Binds K d__law_due ["coder", "text"] []
  g__law_due : mg "_law_due" = some (.ref f__law_due)
  f__law_written : Addr
  d__law_written : FuncData
  F__law_written : Fun K "_law_written" "_law_written" s_law_written f__law_written d__law_written
  b__law_written : Binds K d__law_written ["coder", "row"] []
  g__law_written : mg "_law_written" = some (.ref f__law_written)
  f__law_bent : Addr
  d__law_bent : FuncData
  F__law_bent : Fun K "_law_bent" "_law_bent" s_law_bent f__law_bent d__law_bent
  b__law_bent : Binds K d__law_bent ["m", "text"] []
  g__law_bent : mg "_law_bent" = some (.ref f__law_bent)
  f_law : Addr
  d_law : FuncData
  F_law : Fun K "law" "law" s_law f_law d_law
  b_law : Binds K d_law ["script"] []
  g_law : mg "law" = some (.ref f_law)
structure Txt (K : PySem.W.Frag) (mg : Str → Option Value) extends Txt2 K mg where
  z_all : mg "all" = none
  z_bool : mg "bool" = none
  z_enumerate : mg "enumerate" = none
  z_int : mg "int" = none
  z_isinstance : mg "isinstance" = none
  z_len : mg "len" = none
  z_list : mg "list" = none
  z_min : mg "min" = none
  z_range : mg "range" = none
  z_repr : mg "repr" = none
  z_str : mg "str" = none
  z_tuple : mg "tuple" = none
  C_BadRow : Addr
  fi_BadRow : Addr
  di_BadRow : FuncData
  g_BadRow : mg "BadRow" = some (.ref C_BadRow)
  o_BadRow : OexC K C_BadRow
  i_BadRow : PySem.W.findIn K (.ref C_BadRow) "__init__" = some (some (.ref fi_BadRow))
  t_BadRow : PySem.W.typeIn K (.ref fi_BadRow) = some (.type "function")
  x_BadRow : XfC K C_BadRow
  n_BadRow_row : PySem.W.findIn K (.ref C_BadRow) "row" = some none
  n_BadRow_word : PySem.W.findIn K (.ref C_BadRow) "word" = some none
  Fi_BadRow : Fun K "__init__" "BadRow.__init__" si_BadRow fi_BadRow di_BadRow
  bi_BadRow : Binds K di_BadRow ["self", "row", "word"] []
  e_BadRow : PySem.W.exmOne K (.ref C_BadRow) (.ref C_BadRow) = some true
  vV : PySem.W.findCls K (.type "ValueError") (.type "type") "__init__" = some (.val (.builtin "ValueError.__init__"))
  zV : mg "ValueError" = none
  t_MOST_CODES : Tok
  g_MOST_CODES : mg "MOST_CODES" = some (.int 2000 t_MOST_CODES)
  t_DIGITS : Tok
  g_DIGITS : mg "DIGITS" = some (.str "0123456789" t_DIGITS)

end My

namespace My
open PySem PySem.Spec PyProof.Rows L2
/-! ### things and their kinds -/
def tyN : PyData → String
  | .none => "NoneType"
  | .bool _ => "bool"
  | .int _ => "int"
  | .str _ => "str"
  | .list _ => "list"
  | .tuple _ => "tuple"
  | .dict _ => "dict"
def isT : PyData → Bool
  | .tuple _ => true
  | _ => false
def isI : PyData → Bool
  | .int _ => true
  | .bool _ => true
  | _ => false
def isB : PyData → Bool
  | .bool _ => true
  | _ => false
theorem tyx {K : PySem.W.Frag} {H : Hp} {v : V} {d : PyData} (h : Dp K H v d) : TyX K H v (.type (tyN d)) := by
  cases h with
  | non => exact .base .non
  | bl b => exact .base (.bl b)
  | int i => exact .base (.int i)
  | str x => exact .base (.str x)
  | lst h _ =>
    rcases h with (h | ⟨o, h⟩) | ⟨o, its, n, h, hc, _⟩
    · exact .base (.lst h)
    · exact .base (.frz h)
    · exact .kList h hc
  | tup h _ =>
    rcases h with (h | ⟨o, h⟩) | ⟨o, its, n, h, hc, _⟩
    · exact .base (.tup h)
    · exact .fTuple h
    · exact .kTuple h hc
theorem kitI {K : PySem.W.Frag} : ∀ d : PyData, PySem.W.kitOne K (.type (tyN d)) (.type "int") = some (isI d)
  | .none => kit_ty (a := "NoneType") (b := "int") (r := false) (by decide +kernel)
  | .bool _ => kit_ty (a := "bool") (b := "int") (r := true) (by decide +kernel)
  | .int _ => kit_ty (a := "int") (b := "int") (r := true) (by decide +kernel)
  | .str _ => kit_ty (a := "str") (b := "int") (r := false) (by decide +kernel)
  | .list _ => kit_ty (a := "list") (b := "int") (r := false) (by decide +kernel)
  | .tuple _ => kit_ty (a := "tuple") (b := "int") (r := false) (by decide +kernel)
  | .dict _ => kit_ty (a := "dict") (b := "int") (r := false) (by decide +kernel)
theorem kitBo {K : PySem.W.Frag} : ∀ d : PyData, PySem.W.kitOne K (.type (tyN d)) (.type "bool") = some (isB d)
  | .none => kit_ty (a := "NoneType") (b := "bool") (r := false) (by decide +kernel)
  | .bool _ => kit_ty (a := "bool") (b := "bool") (r := true) (by decide +kernel)
  | .int _ => kit_ty (a := "int") (b := "bool") (r := false) (by decide +kernel)
  | .str _ => kit_ty (a := "str") (b := "bool") (r := false) (by decide +kernel)
  | .list _ => kit_ty (a := "list") (b := "bool") (r := false) (by decide +kernel)
  | .tuple _ => kit_ty (a := "tuple") (b := "bool") (r := false) (by decide +kernel)
  | .dict _ => kit_ty (a := "dict") (b := "bool") (r := false) (by decide +kernel)
theorem kitT {K : PySem.W.Frag} : ∀ d : PyData, PySem.W.kitOne K (.type (tyN d)) (.type "tuple") = some (isT d)
  | .none => kit_ty (a := "NoneType") (b := "tuple") (r := false) (by decide +kernel)
  | .bool _ => kit_ty (a := "bool") (b := "tuple") (r := false) (by decide +kernel)
  | .int _ => kit_ty (a := "int") (b := "tuple") (r := false) (by decide +kernel)
  | .str _ => kit_ty (a := "str") (b := "tuple") (r := false) (by decide +kernel)
  | .list _ => kit_ty (a := "list") (b := "tuple") (r := false) (by decide +kernel)
  | .tuple _ => kit_ty (a := "tuple") (b := "tuple") (r := true) (by decide +kernel)
  | .dict _ => kit_ty (a := "dict") (b := "tuple") (r := false) (by decide +kernel)
def btw (d : PyData) (lo hi : Int) : Bool := match d with
  | .int n => decide (lo ≤ n) && decide (n ≤ hi)
  | _ => false
def pairD : PyData → Bool
  | .tuple ds => decide ((ds.length : Int) = 2)
  | _ => false
theorem dpAll_len {K : PySem.W.Frag} {H : Hp} : ∀ {xs : List V} {ds : List PyData}, DpAll K H xs ds → xs.length = ds.length
  | _, _, .nil => rfl
  | _, _, .cons _ t => congrArg (· + 1) (dpAll_len t)
theorem dpAll_get {K : PySem.W.Frag} {H : Hp} : ∀ {xs : List V} {ds : List PyData} {i : Nat} {x : V}, DpAll K H xs ds → xs[i]? = some x → ∃ d, ds[i]? = some d ∧ Dp K H x d
  | _, _, _, _, .nil, h => by simp at h
  | _, _, 0, _, .cons h t, e => by
    simp at e
    subst e
    exact ⟨_, by simp, h⟩
  | _, _, i + 1, x, .cons h t, e => by
    obtain ⟨d, h1, h2⟩ := dpAll_get (i := i) (x := x) t (by simpa using e)
    exact ⟨d, by simpa using h1, h2⟩
theorem dpAll_get' {K : PySem.W.Frag} {H : Hp} {xs : List V} {ds : List PyData} {i : Nat} {d : PyData} (h : DpAll K H xs ds) (e : ds[i]? = some d) : ∃ x, xs[i]? = some x ∧ Dp K H x d := by
  have hl := dpAll_len h
  have hi := (List.getElem?_eq_some_iff.mp e).1
  obtain ⟨d', h1, h2⟩ := dpAll_get (i := i) (x := xs[i]) h (List.getElem?_eq_getElem (by omega))
  rw [e] at h1
  cases h1
  exact ⟨_, List.getElem?_eq_getElem (by omega), h2⟩
mutual
theorem dp_same {K : PySem.W.Frag} {H H' : Hp} (s : Same H H') : ∀ (d : PyData) (v : V), Dp K H v d → Dp K H' v d
  | .none, _, h => by cases h; exact .non
  | .bool _, _, h => by cases h; exact .bl _
  | .int _, _, h => by cases h; exact .int _
  | .str _, _, h => by cases h; exact .str _
  | .list ds, _, h => by
    cases h with
    | lst a b => exact .lst (s.seq a) (dpAll_same s ds _ b)
  | .tuple ds, _, h => by
    cases h with
    | tup a b => exact .tup (same_tup s a) (dpAll_same s ds _ b)
  | .dict _, _, h => by cases h
theorem dpAll_same {K : PySem.W.Frag} {H H' : Hp} (s : Same H H') : ∀ (ds : List PyData) (vs : List V), DpAll K H vs ds → DpAll K H' vs ds
  | [], _, h => by cases h; exact .nil
  | d :: ds, _, h => by
    cases h with
    | cons a b => exact .cons (dp_same s d _ a) (dpAll_same s ds _ b)
end
theorem dp_tup {K : PySem.W.Frag} {H : Hp} {v : V} {ds : List PyData} (h : Dp K H v (.tuple ds)) : ∃ a xs, v = .ref a ∧ SqT K H a xs ∧ DpAll K H xs ds := by
  cases h with
  | tup a b => exact ⟨_, _, rfl, a, b⟩
/-- hands back the value z, all stands -/
def Pure (K : PySem.W.Frag) (vs : List V) (H : Hp) (Q : VK) (args : List V) (z : V) : Prop := vs = args ∧ ∀ H', Same H H' → Q z H'
section
variable {P : Program} {w : World} {K : PySem.W.Frag} {mg : Str → Option Value} {base : Heap}
def intD (d : PyData) : Bool := isI d && !isB d
def sp_is_integer (K : PySem.W.Frag) : Sp := fun vs H Q _ => ∃ (x : V) (d : PyData), vs = [x] ∧ Dp K H x d ∧ ∀ H', Same H H' → Q (.bl (intD d)) H'
theorem ok_is_integer (T : Txt K mg) : FnOk P w K mg base CX0 1 T.f_is_integer T.d_is_integer ["thing"] (sp_is_integer K) := by
  refine T.F_is_integer.ok sc_is_integer (fun vs H Q E h => ?_) (fun cdv A outer s H vs Q E hr h => ?_)
  · obtain ⟨x, d, rfl, _⟩ := h
    rfl
  · obtain ⟨x, d, rfl, hd, q⟩ := h
    refine ⟨_,
(pss_one (ps_ret (pe_and (pe_callB (call_isi) (by rfl) T.z_isinstance (by decide +kernel) (pa_cons (pv 0) (pa_cons (pe_bltn (v := .ty "int") (by rfl) T.z_int (by decide +kernel) rfl) pa_nil))) (pe_one (pe_not (pe_callB (call_isi) (by rfl) T.z_isinstance (by decide +kernel) (pa_cons (pv 0) (pa_cons (pe_bltn (v := .ty "bool") (by rfl) T.z_bool (by decide +kernel) rfl) pa_nil))))))))
, ?_⟩
    have q' : ∀ b, intD d = b → Q (.bl b) H := fun b e => e ▸ q H (Same.refl H)
    refine ⟨x, rfl, x, .ty "int", _, _, _, rfl, .ty _, tyx hd, kitI d, _, rfl, ?_⟩
    cases h1 : isI d with
    | false => exact iteF (q' _ (by unfold intD; rw [h1]; rfl))
    | true =>
      refine iteT ?_
      refine ⟨_, rfl, _, .ty "bool", _, _, _, rfl, .ty _, tyx hd, kitBo d, _, rfl, ?_⟩
      exact q' _ (by unfold intD; rw [h1]; rfl)
theorem btw_not {d : PyData} (h : intD d = false) (lo hi : Int) : btw d lo hi = false := by
  cases d <;> first | rfl | cases h
theorem intD_int {d : PyData} (h : intD d = true) : ∃ n, d = .int n := by
  cases d <;> first | exact ⟨_, rfl⟩ | cases h
def sp_is_between (K : PySem.W.Frag) : Sp := fun vs H Q _ => ∃ (x : V) (d : PyData) (lo hi : Int), vs = [x, .int lo, .int hi] ∧ Dp K H x d ∧ ∀ H', Same H H' → Q (.bl (btw d lo hi)) H'
theorem ok_is_between (T : Txt K mg) : FnOk P w K mg base CX0 2 T.f_is_between T.d_is_between ["thing", "least", "most"] (sp_is_between K) := by
  refine T.F_is_between.ok sc_is_between (fun vs H Q E h => ?_) (fun cdv A outer s H vs Q E hr h => ?_)
  · obtain ⟨x, d, lo, hi, rfl, _⟩ := h
    rfl
  · obtain ⟨x, d, lo, hi, rfl, hd, q⟩ := h
    refine ⟨_,
(pss_one (ps_ret (pe_and (pe_call (ok_is_integer T) (hr.mono (by decide)) (by rfl) T.g_is_integer T.F_is_integer.kp T.b_is_integer .nil pass0 (pa_cons (pv 0) pa_nil)) (pe_one (pe_chain op_le op_le (pv 1) (pv 0) (pv 2))))))
, ?_⟩
    refine ⟨x, rfl, x, d, rfl, hd, fun H1 s1 => ⟨_, rfl, ?_⟩⟩
    have q' : ∀ b, btw d lo hi = b → Q (.bl b) H1 := fun b e => e ▸ q H1 s1
    cases h1 : intD d with
    | false => exact iteF (q' _ (btw_not h1 lo hi))
    | true =>
      obtain ⟨n, rfl⟩ := intD_int h1
      cases hd
      refine iteT ?_
      refine ⟨_, rfl, _, rfl, lo, n, rfl, rfl, _, rfl, ?_⟩
      refine ite2 (fun e => ?_) (fun e => ?_)
      · refine ⟨_, rfl, n, hi, rfl, rfl, ?_⟩
        exact q' _ (by show (decide (lo ≤ n) && decide (n ≤ hi)) = _; rw [e]; rfl)
      · exact q' _ (by show (decide (lo ≤ n) && decide (n ≤ hi)) = _; rw [Bool.not_eq_true] at e; rw [e]; rfl)
def sp_is_pair (K : PySem.W.Frag) : Sp := fun vs H Q _ => ∃ (x : V) (d : PyData), vs = [x] ∧ Dp K H x d ∧ ∀ H', Same H H' → Q (.bl (pairD d)) H'
theorem ok_is_pair (T : Txt K mg) : FnOk P w K mg base CX0 2 T.f_is_pair T.d_is_pair ["thing"] (sp_is_pair K) := by
  refine T.F_is_pair.ok sc_is_pair (fun vs H Q E h => ?_) (fun cdv A outer s H vs Q E hr h => ?_)
  · obtain ⟨x, d, rfl, _⟩ := h
    rfl
  · obtain ⟨x, d, rfl, hd, q⟩ := h
    refine ⟨_,
(pss_one (ps_ret (pe_and (pe_callB (call_isi) (by rfl) T.z_isinstance (by decide +kernel) (pa_cons (pv 0) (pa_cons (pe_bltn (v := .ty "tuple") (by rfl) T.z_tuple (by decide +kernel) rfl) pa_nil))) (pe_one (pe_cmpR op_eq (pe_callB (call_len_seq) (by rfl) T.z_len (by decide +kernel) (pa_cons (pv 0) pa_nil)) pe_int (nomark _))))))
, ?_⟩
    have q' : ∀ b, pairD d = b → Q (.bl b) H := fun b e => e ▸ q H (Same.refl H)
    refine ⟨x, rfl, x, .ty "tuple", _, _, _, rfl, .ty _, tyx hd, kitT d, _, rfl, ?_⟩
    cases hd with
    | tup h1 h2 =>
      refine iteT ?_
      refine ⟨_, rfl, _, _, rfl, .inr h1, rfl, ?_⟩
      exact q' _ (by show decide _ = decide _; rw [dpAll_len h2]; congr 1; simp)
    | non => exact iteF (q H (Same.refl H))
    | int n => exact iteF (q H (Same.refl H))
    | bl b => exact iteF (q H (Same.refl H))
    | str z => exact iteF (q H (Same.refl H))
    | lst _ _ => exact iteF (q H (Same.refl H))
def tupD (d : PyData) (lo hi : Int) : Bool := match d with
  | .tuple ds => decide (lo ≤ (ds.length : Int)) && decide ((ds.length : Int) ≤ hi)
  | _ => false
def sp_is_tuple_of (K : PySem.W.Frag) : Sp := fun vs H Q _ => ∃ (x : V) (d : PyData) (lo hi : Int), vs = [x, .int lo, .int hi] ∧ Dp K H x d ∧ ∀ H', Same H H' → Q (.bl (tupD d lo hi)) H'
theorem ok_is_tuple_of (T : Txt K mg) : FnOk P w K mg base CX0 2 T.f__is_tuple_of T.d__is_tuple_of ["thing", "least", "most"] (sp_is_tuple_of K) := by
  refine T.F__is_tuple_of.ok sc_is_tuple_of (fun vs H Q E h => ?_) (fun cdv A outer s H vs Q E hr h => ?_)
  · obtain ⟨x, d, lo, hi, rfl, _⟩ := h
    rfl
  · obtain ⟨x, d, lo, hi, rfl, hd, q⟩ := h
    refine ⟨_,
(pss_one (ps_ret (pe_and (pe_callB (call_isi) (by rfl) T.z_isinstance (by decide +kernel) (pa_cons (pv 0) (pa_cons (pe_bltn (v := .ty "tuple") (by rfl) T.z_tuple (by decide +kernel) rfl) pa_nil))) (pe_one (pe_chain op_le op_le (pv 1) (pe_callB (call_len_seq) (by rfl) T.z_len (by decide +kernel) (pa_cons (pv 0) pa_nil)) (pv 2))))))
, ?_⟩
    have q' : ∀ b, tupD d lo hi = b → Q (.bl b) H := fun b e => e ▸ q H (Same.refl H)
    refine ⟨x, rfl, x, .ty "tuple", _, _, _, rfl, .ty _, tyx hd, kitT d, _, rfl, ?_⟩
    cases hd with
    | @tup a xs ds h1 h2 =>
      refine iteT ?_
      refine ⟨_, rfl, _, rfl, _, _, rfl, .inr h1, lo, _, rfl, rfl, _, rfl, ?_⟩
      have hl : xs.length = ds.length := dpAll_len h2
      refine ite2 (fun e => ?_) (fun e => ?_)
      · refine ⟨_, rfl, _, hi, rfl, rfl, ?_⟩
        exact q' _ (by show (decide (lo ≤ (ds.length : Int)) && decide ((ds.length : Int) ≤ hi)) = _; rw [← hl, e]; rfl)
      · exact q' _ (by show (decide (lo ≤ (ds.length : Int)) && decide ((ds.length : Int) ≤ hi)) = _; rw [← hl]; rw [Bool.not_eq_true] at e; rw [e]; rfl)
    | non => exact iteF (q H (Same.refl H))
    | int n => exact iteF (q H (Same.refl H))
    | bl b => exact iteF (q H (Same.refl H))
    | str z => exact iteF (q H (Same.refl H))
    | lst _ _ => exact iteF (q H (Same.refl H))
def moveD : PyData → Bool
  | .tuple [a, b] => btw a (-32) 32 && btw b (-15) 15
  | _ => false
def sp_is_move (K : PySem.W.Frag) : Sp := fun vs H Q _ => ∃ (x : V) (d : PyData), vs = [x] ∧ Dp K H x d ∧ ∀ H', Same H H' → Q (.bl (moveD d)) H'
theorem ok_is_move (T : Txt K mg) : FnOk P w K mg base CX0 3 T.f__is_move T.d__is_move ["thing"] (sp_is_move K) := by
  refine T.F__is_move.ok sc_is_move (fun vs H Q E h => ?_) (fun cdv A outer s H vs Q E hr h => ?_)
  · obtain ⟨x, d, rfl, _⟩ := h
    rfl
  · obtain ⟨x, d, rfl, hd, q⟩ := h
    refine ⟨_,
(pss_one (ps_ret (pe_and (pe_call (ok_is_pair T) (hr.mono (by decide)) (by rfl) T.g_is_pair T.F_is_pair.kp T.b_is_pair .nil pass0 (pa_cons (pv 0) pa_nil)) (pe_and (pe_call (ok_is_between T) (hr.mono (by decide)) (by rfl) T.g_is_between T.F_is_between.kp T.b_is_between .nil pass0 (pa_cons (pe_ix ix_tup (pv 0) pe_int (fun _ _ => rfl)) (pa_cons (pe_un un_neg pe_int) (pa_cons pe_int pa_nil)))) (pe_one (pe_call (ok_is_between T) (hr.mono (by decide)) (by rfl) T.g_is_between T.F_is_between.kp T.b_is_between .nil pass0 (pa_cons (pe_ix ix_tup (pv 0) pe_int (fun _ _ => rfl)) (pa_cons (pe_un un_neg pe_int) (pa_cons pe_int pa_nil)))))))))
, ?_⟩
    have q' : ∀ b H', Same H H' → moveD d = b → Q (.bl b) H' := fun b H' s e => e ▸ q H' s
    refine ⟨x, rfl, x, d, rfl, hd, fun H1 s1 => ⟨_, rfl, ?_⟩⟩
    by_cases hp : pairD d = true
    · rw [hp]
      refine iteT ?_
      obtain ⟨da, db, rfl⟩ : ∃ da db, d = .tuple [da, db] := by
        cases d with
        | tuple ds =>
          match ds, hp with
          | [a, b], _ => exact ⟨a, b, rfl⟩
          | [], hp => cases hp
          | [a], hp => cases hp
          | a :: b :: c :: r, hp =>
            have := of_decide_eq_true (show decide (((a :: b :: c :: r).length : Int) = 2) = true from hp)
            simp at this
            omega
        | _ => cases hp
      obtain ⟨a, xs, rfl, ha, hds⟩ := dp_tup hd
      have ha1 := same_tup s1 ha
      obtain ⟨x0, e0, h0⟩ := dpAll_get' hds (i := 0) rfl
      obtain ⟨x1, e1, h1⟩ := dpAll_get' hds (i := 1) rfl
      refine ⟨_, rfl, a, xs, 0, x0, rfl, rfl, ha1, atI_nat (j := 0) e0, 32, rfl, x0, da, -32, 32, rfl, dp_same s1 _ _ h0, fun H2 s2 => ⟨_, rfl, ?_⟩⟩
      have ha2 := same_tup s2 ha1
      cases hb : btw da (-32) 32 with
      | false =>
        refine iteF ?_
        exact q' _ H2 (s1.trans s2) (by show (btw da (-32) 32 && btw db (-15) 15) = false; rw [hb]; rfl)
      | true =>
        refine iteT ?_
        refine ⟨_, rfl, a, xs, 1, x1, rfl, rfl, ha2, atI_nat (j := 1) e1, 15, rfl, x1, db, -15, 15, rfl, dp_same s2 _ _ (dp_same s1 _ _ h1), fun H3 s3 => ?_⟩
        exact q' _ H3 ((s1.trans s2).trans s3) (by show (btw da (-32) 32 && btw db (-15) 15) = _; rw [hb]; rfl)
    · rw [Bool.not_eq_true] at hp
      rw [hp]
      refine iteF ?_
      have e : moveD d = false := by
        unfold moveD
        split
        · cases hp
        · rfl
      exact q' _ H1 s1 e
def fadeD (d : PyData) : Bool := btw d 0 0 || btw d 2 99
def sp_is_fade (K : PySem.W.Frag) : Sp := fun vs H Q _ => ∃ (x : V) (d : PyData), vs = [x] ∧ Dp K H x d ∧ ∀ H', Same H H' → Q (.bl (fadeD d)) H'
theorem ok_is_fade (T : Txt K mg) : FnOk P w K mg base CX0 3 T.f__is_fade T.d__is_fade ["thing"] (sp_is_fade K) := by
  refine T.F__is_fade.ok sc_is_fade (fun vs H Q E h => ?_) (fun cdv A outer s H vs Q E hr h => ?_)
  · obtain ⟨x, d, rfl, _⟩ := h
    rfl
  · obtain ⟨x, d, rfl, hd, q⟩ := h
    refine ⟨_,
(pss_one (ps_ret (pe_or (pe_call (ok_is_between T) (hr.mono (by decide)) (by rfl) T.g_is_between T.F_is_between.kp T.b_is_between .nil pass0 (pa_cons (pv 0) (pa_cons pe_int (pa_cons pe_int pa_nil)))) (pe_one (pe_call (ok_is_between T) (hr.mono (by decide)) (by rfl) T.g_is_between T.F_is_between.kp T.b_is_between .nil pass0 (pa_cons (pv 0) (pa_cons pe_int (pa_cons pe_int pa_nil))))))))
, ?_⟩
    have q' : ∀ b H', Same H H' → fadeD d = b → Q (.bl b) H' := fun b H' s e => e ▸ q H' s
    refine ⟨x, rfl, x, d, 0, 0, rfl, hd, fun H1 s1 => ⟨_, rfl, ?_⟩⟩
    cases hb : btw d 0 0 with
    | true =>
      refine iteT ?_
      exact q' _ H1 s1 (by unfold fadeD; rw [hb]; rfl)
    | false =>
      refine iteF ?_
      refine ⟨x, rfl, x, d, 2, 99, rfl, dp_same s1 _ _ hd, fun H2 s2 => ?_⟩
      exact q' _ H2 (s1.trans s2) (by unfold fadeD; rw [hb]; rfl)
end
end My

namespace My
open PySem PySem.Spec PyProof.Rows L2
theorem for_enumT {K : PySem.W.Frag} {a : Addr} {xs : List V} {g : TG} {tb : L2.TS} {D : Ends} {σ : L2.St} {H : Hp} (Pv : Nat → L2.St → Hp → Prop) (h0 : Pv 0 σ H)
    (still : ∀ i σ H, i ≤ xs.length → Pv i σ H → SqT K H a xs)
    (turn : ∀ i x σ H T, xs[i]? = some x → Pv i σ H → H T = none → g (.ref T) σ (upd H T (.tup [.int (i : Nat), x])) fun σ2 H2 => tb { D with nx := Pv (i + 1), ct := Pv (i + 1), bk := D.nx } σ2 H2)
    (fin : ∀ σ H, Pv xs.length σ H → D.nx σ H) :
    ∃ W : Nat → Nat → L2.St → Hp → Prop, (∃ m, W 0 m σ H) ∧ ∀ i m σ H, W i m σ H →
      ((Itu K a).stop i H ∧ D.nx σ H) ∨ ((Itu K a).go i H ∧ ∃ N : L2.St → Hp → Prop, (∀ σ' H', N σ' H' → ∃ m', m' < m ∧ W (i + 1) m' σ' H') ∧ ∀ x H', (Itu K a).yld i H x H' → g x σ H' fun σ2 H2 => tb { D with nx := N, ct := N, bk := D.nx } σ2 H2) := by
  refine ⟨fun i m σ H => m + i = xs.length ∧ Pv i σ H, ⟨xs.length, by omega, h0⟩, ?_⟩
  rintro i m σ H ⟨hm, p⟩
  have q := still i σ H (by omega) p
  rcases Nat.lt_or_ge i xs.length with hlt | hge
  · refine Or.inr ⟨⟨xs, xs[i], q, List.getElem?_eq_getElem hlt⟩, Pv (i + 1), fun σ' H' p' => ⟨m - 1, by omega, by omega, p'⟩, ?_⟩
    rintro v H' ⟨T, x, rfl, hT, rfl, hx⟩
    exact turn i x σ H T (hx xs q) p hT
  · have e : i = xs.length := by omega
    exact Or.inl ⟨⟨xs, q, e.symm⟩, fin σ H (e ▸ p)⟩
theorem st_tail {t u : L2.TS} {D : Ends} {σ : L2.St} {H : Hp} (R : L2.St → Hp → Prop) (hR : ∀ σ H, R σ H → u D σ H)
    (h : (∀ σ H, R σ H → u D σ H) → t { D with nx := u D } σ H) : tSeq t u D σ H := h hR
/-- the place of the first thing of which p does not hold -/
def badAt (p : PyData → Bool) : Nat → List PyData → Option Nat
  | _, [] => none
  | i, d :: r => if p d = true then badAt p (i + 1) r else some i
theorem badAt_step {p : PyData → Bool} {ds : List PyData} {i : Nat} {d : PyData} (h : ds[i]? = some d) : badAt p i (ds.drop i) = if p d = true then badAt p (i + 1) (ds.drop (i + 1)) else some i := by
  have hi := (List.getElem?_eq_some_iff.mp h).1
  have e : ds.drop i = d :: ds.drop (i + 1) := by
    rw [List.drop_eq_getElem_cons hi]
    rw [List.getElem?_eq_getElem hi] at h
    rw [Option.some.inj h]
  rw [e]
  rfl
def noOr : Option Nat → PyData
  | none => .none
  | some i => .int i
def faultD (s : Str) : Option Nat → PyData
  | none => .none
  | some i => .tuple [.str s, .int i]
def rowF (s : Str) (lo hi : Int) (p : PyData → Bool) (d : PyData) : PyData := match d with
  | .tuple ds => if tupD (.tuple ds) lo hi = true then faultD s (badAt p 0 ds) else .tuple [.str s, .none]
  | _ => .tuple [.str s, .none]
def stepsF : PyData → PyData := rowF "steps" 1 16 (btw · 1 9999)
def movesF : PyData → PyData := rowF "moves" 2 16 moveD
theorem upd_tup {K : PySem.W.Frag} {H : Hp} {p : Addr} {xs : List V} : SqT K (upd H p (.tup xs)) p xs := .inl (.inl upd_same)
section
variable {P : Program} {w : World} {K : PySem.W.Frag} {mg : Str → Option Value} {base : Heap}
/-- hands back a thing that is f of the argument -/
def spF (K : PySem.W.Frag) (f : PyData → PyData) : Sp := fun vs H Q _ => ∃ (x : V) (d : PyData), vs = [x] ∧ Dp K H x d ∧ ∀ z H', Same H H' → Dp K H' z (f d) → Q z H'
theorem ok_fault_of_steps (T : Txt K mg) : FnOk P w K mg base CX0 3 T.f__fault_of_steps T.d__fault_of_steps ["steps"] (spF K stepsF) := by
  refine T.F__fault_of_steps.ok sc_fault_of_steps (fun vs H Q E h => ?_) (fun cdv A outer s H vs Q E hr h => ?_)
  · obtain ⟨x, d, rfl, _⟩ := h
    rfl
  · obtain ⟨x, d, rfl, hd, q⟩ := h
    have q' : ∀ z H' e, Same H H' → stepsF d = e → Dp K H' z e → Q z H' := fun z H' e s ee hz => q z H' s (ee ▸ hz)
    refine ⟨_,
(pss_cons (ps_if (pt_not (pt_val (pe_call (ok_is_tuple_of T) (hr.mono (by decide)) (by rfl) T.g__is_tuple_of T.F__is_tuple_of.kp T.b__is_tuple_of .nil pass0 (pa_cons (pv 0) (pa_cons pe_int (pa_cons pe_int pa_nil)))))) (pss_one (ps_ret (pe_tup (pa_cons pe_str (pa_cons pe_non pa_nil))))) pss_nil)
      (pss_cons (ps_for PassesOwn.never rfl (My.pi_enumT (by rfl) T.z_enumerate (pa_cons (pv 0) pa_nil)) (pg_tup (by rfl) (pgs_cons (pg_name (i := 1) sc_fault_of_steps.nd rfl (Or.inl rfl)) (pgs_cons (pg_name (i := 2) sc_fault_of_steps.nd rfl (Or.inl rfl)) pgs_nil))) (pss_one (ps_if (pt_not (pt_val (pe_call (ok_is_between T) (hr.mono (by decide)) (by rfl) T.g_is_between T.F_is_between.kp T.b_is_between .nil pass0 (pa_cons (pv 2) (pa_cons pe_int (pa_cons pe_int pa_nil)))))) (pss_one (ps_ret (pe_tup (pa_cons pe_str (pa_cons (pv 1) pa_nil))))) pss_nil)))
      (pss_one (ps_ret pe_non))))
, ?_⟩
    refine ⟨x, rfl, x, d, 1, 16, rfl, hd, fun H1 s1 => ⟨_, rfl, ?_⟩⟩
    cases hb : tupD d 1 16 with
    | false =>
      refine iteT ?_
      refine ⟨by decide, fun p hp => ?_⟩
      refine q' _ _ _ (s1.trans (same_new hp)) ?_ (.tup upd_tup (.cons (.str _) (.cons .non .nil)))
      unfold stepsF rowF
      split
      · rw [hb]; rfl
      · rfl
    | true =>
      refine iteF ?_
      obtain ⟨ds, rfl⟩ : ∃ ds, d = .tuple ds := by
        cases d with
        | tuple ds => exact ⟨ds, rfl⟩
        | _ => cases hb
      obtain ⟨a, xs, rfl, ha, hds⟩ := dp_tup hd
      have hF : stepsF (.tuple ds) = faultD "steps" (badAt (btw · 1 9999) 0 ds) := by
        show (if _ then _ else _) = _
        rw [if_pos hb]
      refine ⟨.ref a, rfl, a, xs, rfl, same_tup s1 ha, ?_⟩
      refine for_enumT (K := K) (a := a) (xs := xs) (fun i σ H' => ∃ y1 y2, σ = [some (.ref a), y1, y2] ∧ Same H H' ∧ badAt (btw · 1 9999) 0 ds = badAt (btw · 1 9999) i (ds.drop i)) ⟨none, none, rfl, s1, rfl⟩ ?_ ?_ ?_
      · rintro i σ H' _ ⟨_, _, _, s2, _⟩
        exact same_tup s2 ha
      · rintro i v σ H' p hi ⟨y1, y2, rfl, s2, hbad⟩ hp
        obtain ⟨dv, hdv, hv⟩ := dpAll_get hds hi
        rw [badAt_step hdv] at hbad
        have s3 := s2.trans (same_new (o := .tup [.int (i : Nat), v]) hp)
        refine ⟨p, _, rfl, upd_tup, rfl, _, _, rfl, _, _, rfl, rfl, ?_⟩
        refine ⟨_, rfl, v, dv, 1, 9999, rfl, dp_same s3 _ _ hv, fun H2 s4 => ⟨_, rfl, ?_⟩⟩
        cases hg : btw dv 1 9999 with
        | true =>
          refine iteF ?_
          rw [hg] at hbad
          exact ⟨_, _, rfl, s3.trans s4, hbad⟩
        | false =>
          refine iteT ?_
          rw [hg] at hbad
          refine ⟨_, rfl, by show 2 ≤ sizeLine; decide, fun p2 hp2 => ?_⟩
          refine q' _ _ _ ((s3.trans s4).trans (same_new hp2)) (hF.trans ?_) (.tup upd_tup (.cons (.str _) (.cons (.int _) .nil)))
          rw [hbad]
          rfl
      · rintro σ H' ⟨y1, y2, rfl, s2, hbad⟩
        refine q' _ _ _ s2 (hF.trans ?_) .non
        rw [hbad, dpAll_len hds, List.drop_length]
        rfl
theorem ok_fault_of_moves (T : Txt K mg) : FnOk P w K mg base CX0 4 T.f__fault_of_moves T.d__fault_of_moves ["moves"] (spF K movesF) := by
  refine T.F__fault_of_moves.ok sc_fault_of_moves (fun vs H Q E h => ?_) (fun cdv A outer s H vs Q E hr h => ?_)
  · obtain ⟨x, d, rfl, _⟩ := h
    rfl
  · obtain ⟨x, d, rfl, hd, q⟩ := h
    have q' : ∀ z H' e, Same H H' → movesF d = e → Dp K H' z e → Q z H' := fun z H' e s ee hz => q z H' s (ee ▸ hz)
    refine ⟨_,
(pss_cons (ps_if (pt_not (pt_val (pe_call (ok_is_tuple_of T) (hr.mono (by decide)) (by rfl) T.g__is_tuple_of T.F__is_tuple_of.kp T.b__is_tuple_of .nil pass0 (pa_cons (pv 0) (pa_cons pe_int (pa_cons pe_int pa_nil)))))) (pss_one (ps_ret (pe_tup (pa_cons pe_str (pa_cons pe_non pa_nil))))) pss_nil)
      (pss_cons (ps_for PassesOwn.never rfl (My.pi_enumT (by rfl) T.z_enumerate (pa_cons (pv 0) pa_nil)) (pg_tup (by rfl) (pgs_cons (pg_name (i := 1) sc_fault_of_moves.nd rfl (Or.inl rfl)) (pgs_cons (pg_name (i := 2) sc_fault_of_moves.nd rfl (Or.inl rfl)) pgs_nil))) (pss_one (ps_if (pt_not (pt_val (pe_call (ok_is_move T) (hr.mono (by decide)) (by rfl) T.g__is_move T.F__is_move.kp T.b__is_move .nil pass0 (pa_cons (pv 2) pa_nil)))) (pss_one (ps_ret (pe_tup (pa_cons pe_str (pa_cons (pv 1) pa_nil))))) pss_nil)))
      (pss_one (ps_ret pe_non))))
, ?_⟩
    refine ⟨x, rfl, x, d, 2, 16, rfl, hd, fun H1 s1 => ⟨_, rfl, ?_⟩⟩
    cases hb : tupD d 2 16 with
    | false =>
      refine iteT ?_
      refine ⟨by decide, fun p hp => ?_⟩
      refine q' _ _ _ (s1.trans (same_new hp)) ?_ (.tup upd_tup (.cons (.str _) (.cons .non .nil)))
      unfold movesF rowF
      split
      · rw [hb]; rfl
      · rfl
    | true =>
      refine iteF ?_
      obtain ⟨ds, rfl⟩ : ∃ ds, d = .tuple ds := by
        cases d with
        | tuple ds => exact ⟨ds, rfl⟩
        | _ => cases hb
      obtain ⟨a, xs, rfl, ha, hds⟩ := dp_tup hd
      have hF : movesF (.tuple ds) = faultD "moves" (badAt moveD 0 ds) := by
        show (if _ then _ else _) = _
        rw [if_pos hb]
      refine ⟨.ref a, rfl, a, xs, rfl, same_tup s1 ha, ?_⟩
      refine for_enumT (K := K) (a := a) (xs := xs) (fun i σ H' => ∃ y1 y2, σ = [some (.ref a), y1, y2] ∧ Same H H' ∧ badAt moveD 0 ds = badAt moveD i (ds.drop i)) ⟨none, none, rfl, s1, rfl⟩ ?_ ?_ ?_
      · rintro i σ H' _ ⟨_, _, _, s2, _⟩
        exact same_tup s2 ha
      · rintro i v σ H' p hi ⟨y1, y2, rfl, s2, hbad⟩ hp
        obtain ⟨dv, hdv, hv⟩ := dpAll_get hds hi
        rw [badAt_step hdv] at hbad
        have s3 := s2.trans (same_new (o := .tup [.int (i : Nat), v]) hp)
        refine ⟨p, _, rfl, upd_tup, rfl, _, _, rfl, _, _, rfl, rfl, ?_⟩
        refine ⟨_, rfl, v, dv, rfl, dp_same s3 _ _ hv, fun H2 s4 => ⟨_, rfl, ?_⟩⟩
        cases hg : moveD dv with
        | true =>
          refine iteF ?_
          rw [hg] at hbad
          exact ⟨_, _, rfl, s3.trans s4, hbad⟩
        | false =>
          refine iteT ?_
          rw [hg] at hbad
          refine ⟨_, rfl, by show 2 ≤ sizeLine; decide, fun p2 hp2 => ?_⟩
          refine q' _ _ _ ((s3.trans s4).trans (same_new hp2)) (hF.trans ?_) (.tup upd_tup (.cons (.str _) (.cons (.int _) .nil)))
          rw [hbad]
          rfl
      · rintro σ H' ⟨y1, y2, rfl, s2, hbad⟩
        refine q' _ _ _ s2 (hF.trans ?_) .non
        rw [hbad, dpAll_len hds, List.drop_length]
        rfl
/-- the five things -/
def codF (low high steps moves fade : PyData) : PyData :=
  if btw low (-32768) 0 = true then
    if btw high 0 32767 = true then
      match stepsF steps with
      | .none => (match movesF moves with
        | .none => if fadeD fade = true then .none else .tuple [.str "fade", .none]
        | e => e)
      | e => e
    else .tuple [.str "high", .none]
  else .tuple [.str "low", .none]
def firstF : PyData → PyData
  | .tuple [low, high, steps, moves, fade] => codF low high steps moves fade
  | _ => .tuple [.str "form", .none]
def isN : PyData → Bool
  | .none => true
  | _ => false
theorem dp_isN {K : PySem.W.Frag} {H : Hp} {z : V} {e : PyData} (h : Dp K H z e) : decide (z = V.non) = isN e := by
  cases h <;> rfl
theorem len5 {ds : List PyData} (h : ds.length = 5) : ∃ a b c d e, ds = [a, b, c, d, e] := by
  match ds, h with
  | [a, b, c, d, e], _ => exact ⟨a, b, c, d, e, rfl⟩
theorem dpAll5 {K : PySem.W.Frag} {H : Hp} {xs : List V} {a b c d e : PyData} (h : DpAll K H xs [a, b, c, d, e]) : ∃ x1 x2 x3 x4 x5, xs = [x1, x2, x3, x4, x5] ∧ Dp K H x1 a ∧ Dp K H x2 b ∧ Dp K H x3 c ∧ Dp K H x4 d ∧ Dp K H x5 e := by
  cases h with
  | cons h1 h => cases h with
    | cons h2 h => cases h with
      | cons h3 h => cases h with
        | cons h4 h => cases h with
          | cons h5 h => cases h with
            | nil => exact ⟨_, _, _, _, _, rfl, h1, h2, h3, h4, h5⟩
theorem ok_first_fault (T : Txt K mg) : FnOk P w K mg base CX0 5 T.f__first_fault T.d__first_fault ["thing"] (spF K firstF) := by
  refine T.F__first_fault.ok sc_first_fault (fun vs H Q E h => ?_) (fun cdv A outer s H vs Q E hr h => ?_)
  · obtain ⟨x, d, rfl, _⟩ := h
    rfl
  · obtain ⟨x, d, rfl, hd, q⟩ := h
    have q' : ∀ z H' e, Same H H' → firstF d = e → Dp K H' z e → Q z H' := fun z H' e s ee hz => q z H' s (ee ▸ hz)
    refine ⟨_,
(pss_cons (ps_if (PW.pt (pw_or (pt_not (pt_val (pe_callB (call_isi) (by rfl) T.z_isinstance (by decide +kernel) (pa_cons (pv 0) (pa_cons (pe_bltn (v := .ty "tuple") (by rfl) T.z_tuple (by decide +kernel) rfl) pa_nil))))) (pw_or1 (pt_cmpR op_ne (pe_callB (call_len_seq) (by rfl) T.z_len (by decide +kernel) (pa_cons (pv 0) pa_nil)) pe_int (nomark _))))) (pss_one (ps_ret (pe_tup (pa_cons pe_str (pa_cons pe_non pa_nil))))) pss_nil)
      (pss_cons (ps_asg (pv 0) (pg_tup (by rfl) (pgs_cons (pg_name (i := 1) sc_first_fault.nd rfl (Or.inl rfl)) (pgs_cons (pg_name (i := 2) sc_first_fault.nd rfl (Or.inl rfl)) (pgs_cons (pg_name (i := 3) sc_first_fault.nd rfl (Or.inl rfl)) (pgs_cons (pg_name (i := 4) sc_first_fault.nd rfl (Or.inl rfl)) (pgs_cons (pg_name (i := 5) sc_first_fault.nd rfl (Or.inl rfl)) pgs_nil)))))))
      (pss_cons (ps_if (pt_not (pt_val (pe_call (ok_is_between T) (hr.mono (by decide)) (by rfl) T.g_is_between T.F_is_between.kp T.b_is_between .nil pass0 (pa_cons (pv 1) (pa_cons (pe_un un_neg pe_int) (pa_cons pe_int pa_nil)))))) (pss_one (ps_ret (pe_tup (pa_cons pe_str (pa_cons pe_non pa_nil))))) pss_nil)
      (pss_cons (ps_if (pt_not (pt_val (pe_call (ok_is_between T) (hr.mono (by decide)) (by rfl) T.g_is_between T.F_is_between.kp T.b_is_between .nil pass0 (pa_cons (pv 2) (pa_cons pe_int (pa_cons pe_int pa_nil)))))) (pss_one (ps_ret (pe_tup (pa_cons pe_str (pa_cons pe_non pa_nil))))) pss_nil)
      (pss_cons (ps_set (i := 6) sc_first_fault.nd rfl (Or.inl rfl) (pe_call (ok_fault_of_steps T) (hr.mono (by decide)) (by rfl) T.g__fault_of_steps T.F__fault_of_steps.kp T.b__fault_of_steps .nil pass0 (pa_cons (pv 3) pa_nil)))
      (pss_cons (ps_if (pt_cmpR op_isN (pv 6) pe_non (nomark _)) (pss_one (ps_set (i := 6) sc_first_fault.nd rfl (Or.inl rfl) (pe_call (ok_fault_of_moves T) (hr.mono (by decide)) (by rfl) T.g__fault_of_moves T.F__fault_of_moves.kp T.b__fault_of_moves .nil pass0 (pa_cons (pv 4) pa_nil)))) pss_nil)
      (pss_cons (ps_if (PW.pt (pw_and (pt_cmpR op_isN (pv 6) pe_non (nomark _)) (pw_and1 (pt_not (pt_val (pe_call (ok_is_fade T) (hr.mono (by decide)) (by rfl) T.g__is_fade T.F__is_fade.kp T.b__is_fade .nil pass0 (pa_cons (pv 5) pa_nil))))))) (pss_one (ps_set (i := 6) sc_first_fault.nd rfl (Or.inl rfl) (pe_tup (pa_cons pe_str (pa_cons pe_non pa_nil))))) pss_nil)
      (pss_one (ps_ret (pv 6))))))))))
, ?_⟩
    refine ⟨x, rfl, x, .ty "tuple", _, _, _, rfl, .ty _, tyx hd, kitT d, _, rfl, ?_⟩
    -- no tuple of five things
    have bad : (∀ a b c e f, d ≠ .tuple [a, b, c, e, f]) → ∀ H1, Same H H1 → ([V.str "form", V.non].length ≤ sizeLine ∧ ∀ p, H1 p = none → Q (.ref p) (upd H1 p (.tup [V.str "form", V.non]))) := fun nd H1 s1 => by
      refine ⟨by decide, fun p hp => q' _ _ _ (s1.trans (same_new hp)) ?_ (.tup upd_tup (.cons (.str _) (.cons .non .nil)))⟩
      unfold firstF
      split
      · exact absurd rfl (nd _ _ _ _ _)
      · rfl
    cases hT : isT d with
    | false =>
      refine iteT ?_
      exact bad (fun a b c e f z => by rw [z] at hT; cases hT) H (Same.refl H)
    | true =>
      refine iteF ?_
      obtain ⟨ds, rfl⟩ : ∃ ds, d = .tuple ds := by
        cases d with
        | tuple ds => exact ⟨ds, rfl⟩
        | _ => cases hT
      obtain ⟨a, xs, rfl, ha, hds⟩ := dp_tup hd
      refine ⟨_, rfl, a, xs, rfl, .inr ha, rfl, _, rfl, ?_⟩
      have hl := dpAll_len hds
      by_cases h5 : ds.length = 5
      · have e5 : decide (V.int (xs.length : Int) = V.int 5) = true := by rw [hl, h5]; rfl
        rw [e5]
        refine iteF ?_
        obtain ⟨low, high, steps, moves, fade, rfl⟩ := len5 h5
        obtain ⟨x1, x2, x3, x4, x5, rfl, d1, d2, d3, d4, d5⟩ := dpAll5 hds
        have hF : firstF (.tuple [low, high, steps, moves, fade]) = codF low high steps moves fade := rfl
        rw [hF] at q'
        refine ⟨_, rfl, a, _, rfl, ha, rfl, _, _, rfl, _, _, rfl, _, _, rfl, _, _, rfl, _, _, rfl, rfl, ?_⟩
        refine ⟨_, rfl, 32768, rfl, x1, low, -32768, 0, rfl, d1, fun H1 s1 => ⟨_, rfl, ?_⟩⟩
        cases b1 : btw low (-32768) 0 with
        | false =>
          refine iteT ?_
          refine ⟨by decide, fun p hp => q' _ _ _ (s1.trans (same_new hp)) ?_ (.tup upd_tup (.cons (.str "low") (.cons .non .nil)))⟩
          unfold codF
          rw [b1]
          rfl
        | true =>
        refine iteF ?_
        refine ⟨_, rfl, x2, high, 0, 32767, rfl, dp_same s1 _ _ d2, fun H2 s2 => ⟨_, rfl, ?_⟩⟩
        have s12 := s1.trans s2
        cases b2 : btw high 0 32767 with
        | false =>
          refine iteT ?_
          refine ⟨by decide, fun p hp => q' _ _ _ (s12.trans (same_new hp)) ?_ (.tup upd_tup (.cons (.str "high") (.cons .non .nil)))⟩
          unfold codF
          rw [b1, b2]
          rfl
        | true =>
        refine iteF ?_
        refine ⟨_, rfl, x3, steps, rfl, dp_same s12 _ _ d3, fun z1 H3 s3 hz1 => ?_⟩
        have s13 := s12.trans s3
        dsimp only
        refine st_tail (fun σ H' => ∃ (z : V) (e : PyData), σ = [some (.ref a), some x1, some x2, some x3, some x4, some x5, some z] ∧ Same H H' ∧ Dp K H' z e ∧
          codF low high steps moves fade = (if isN e = true then (if fadeD fade = true then .none else .tuple [.str "fade", .none]) else e)) ?_ fun tail => ?_
        · rintro σ H4 ⟨z, e, rfl, s4, hz, he⟩
          refine ⟨_, rfl, rfl, _, rfl, ?_⟩
          show if decide (z = V.non) = true then _ else _
          rw [dp_isN hz]
          cases hn : isN e with
          | false =>
            refine iteF ?_
            refine iteF ?_
            refine ⟨_, rfl, q' _ _ _ s4 ?_ hz⟩
            rw [he, hn]
            rfl
          | true =>
            refine iteT ?_
            refine ⟨_, rfl, x5, fade, rfl, dp_same s4 _ _ d5, fun H5 s5 => ⟨_, rfl, ?_⟩⟩
            cases hf : fadeD fade with
            | true =>
              refine iteF ?_
              have en : e = .none := by
                cases e with
                | none => rfl
                | _ => cases hn
              refine ⟨_, rfl, q' _ _ _ (s4.trans s5) ?_ (dp_same s5 _ _ hz)⟩
              rw [he, hn, hf, en]
              rfl
            | false =>
              refine iteT ?_
              refine ⟨by decide, fun p hp => ⟨_, rfl, q' _ _ _ ((s4.trans s5).trans (same_new hp)) ?_ (.tup upd_tup (.cons (.str "fade") (.cons .non .nil)))⟩⟩
              rw [he, hn, hf]
              rfl
        refine ⟨_, rfl, rfl, _, rfl, ?_⟩
        show if decide (z1 = V.non) = true then _ else _
        rw [dp_isN hz1]
        have hC : codF low high steps moves fade = (match stepsF steps with
          | .none => (match movesF moves with
            | .none => if fadeD fade = true then .none else .tuple [.str "fade", .none]
            | e => e)
          | e => e) := by
          unfold codF
          rw [b1, b2]
          rfl
        cases hn : isN (stepsF steps) with
        | false =>
          refine iteF ?_
          refine tail _ _ ⟨z1, stepsF steps, rfl, s13, hz1, ?_⟩
          rw [hC, hn]
          cases e : stepsF steps with
          | none => rw [e] at hn; cases hn
          | _ => rfl
        | true =>
          refine iteT ?_
          refine ⟨_, rfl, x4, moves, rfl, dp_same s13 _ _ d4, fun z2 H4 s4 hz2 => ?_⟩
          refine tail _ _ ⟨z2, movesF moves, rfl, s13.trans s4, hz2, ?_⟩
          rw [hC]
          have en : stepsF steps = .none := by
            cases e : stepsF steps with
            | none => rfl
            | _ => rw [e] at hn; cases hn
          rw [en]
          cases movesF moves <;> rfl
      · have e5 : decide (V.int (xs.length : Int) = V.int 5) = false := by
          rw [hl]
          refine decide_eq_false fun z => h5 ?_
          have := V.int.inj z
          omega
        rw [e5]
        refine iteT ?_
        exact bad (fun a b c e f z => by cases z; exact h5 rfl) H (Same.refl H)
end
end My

namespace My
open PySem PySem.Spec PyProof.Rows L2
/-! ### coders, states, the move of a code: the mathematics -/
structure Cod where
  low : Int
  high : Int
  steps : List Int
  moves : List (Int × Int)
  fade : Int
def pairI (p : Int × Int) : PyData := .tuple [.int p.1, .int p.2]
def Cod.dat (C : Cod) : PyData := .tuple [.int C.low, .int C.high, .tuple (C.steps.map .int), .tuple (C.moves.map pairI), .int C.fade]
structure Cod.Ok (C : Cod) : Prop where
  l1 : -32768 ≤ C.low
  l2 : C.low ≤ 0
  h1 : 0 ≤ C.high
  h2 : C.high ≤ 32767
  s1 : 1 ≤ C.steps.length
  s2 : C.steps.length ≤ 16
  s3 : ∀ s ∈ C.steps, 1 ≤ s ∧ s ≤ 9999
  m1 : 2 ≤ C.moves.length
  m2 : C.moves.length ≤ 16
  m3 : ∀ p ∈ C.moves, (-32 ≤ p.1 ∧ p.1 ≤ 32) ∧ (-15 ≤ p.2 ∧ p.2 ≤ 15)
  f1 : C.fade = 0 ∨ (2 ≤ C.fade ∧ C.fade ≤ 99)
def rnd (n d : Int) : Int := if n < 0 then -((-n).fdiv d) else n.fdiv d
def lim (n lo hi : Int) : Int := if n < lo then lo else if hi < n then hi else n
def fdd (l f : Int) : Int := if f = 0 then l else l - rnd l f
def Cod.chg (C : Cod) (k p : Nat) : Int := rnd ((C.moves.getD k (0, 0)).1 * C.steps.getD p 0) 8
def Cod.led (C : Cod) (s : Int × Int) (k : Nat) : Int × Int :=
  (lim (fdd s.1 C.fade + C.chg k s.2.toNat) C.low C.high, lim (s.2 + (C.moves.getD k (0, 0)).2) 0 ((C.steps.length : Int) - 1))
def Cod.St (C : Cod) (s : Int × Int) : Prop := C.low ≤ s.1 ∧ s.1 ≤ C.high ∧ 0 ≤ s.2 ∧ s.2 < C.steps.length
theorem lim_in {n lo hi : Int} (h : lo ≤ hi) : lo ≤ lim n lo hi ∧ lim n lo hi ≤ hi := by
  unfold lim
  split
  · omega
  · split <;> omega
theorem Cod.led_St {C : Cod} (O : C.Ok) (s : Int × Int) (k : Nat) : C.St (C.led s k) := by
  have h1 := lim_in (n := fdd s.1 C.fade + C.chg k s.2.toNat) (lo := C.low) (hi := C.high) (by have := O.l2; have := O.h1; omega)
  have h2 := lim_in (n := s.2 + (C.moves.getD k (0, 0)).2) (lo := 0) (hi := (C.steps.length : Int) - 1) (by have := O.s1; omega)
  exact ⟨h1.1, h1.2, h2.1, by show lim _ _ _ < _; omega⟩
theorem badAt_none {p : PyData → Bool} : ∀ {ds : List PyData} {i : Nat}, (∀ d ∈ ds, p d = true) → badAt p i ds = none
  | [], _, _ => rfl
  | d :: r, i, h => by
    show (if p d = true then badAt p (i + 1) r else some i) = none
    rw [if_pos (h d List.mem_cons_self)]
    exact badAt_none fun e he => h e (List.mem_cons_of_mem _ he)
theorem btw_in {n lo hi : Int} (h1 : lo ≤ n) (h2 : n ≤ hi) : btw (.int n) lo hi = true := by
  show (decide _ && decide _) = true
  rw [decide_eq_true h1, decide_eq_true h2]
  rfl
theorem tup_in {ds : List PyData} {lo hi : Int} (h1 : lo ≤ (ds.length : Int)) (h2 : (ds.length : Int) ≤ hi) : tupD (.tuple ds) lo hi = true := by
  show (decide _ && decide _) = true
  rw [decide_eq_true h1, decide_eq_true h2]
  rfl
theorem Cod.Ok.first {C : Cod} (O : C.Ok) : firstF C.dat = .none := by
  have e1 : stepsF (.tuple (C.steps.map .int)) = .none := by
    show (if _ then _ else _) = _
    rw [if_pos (tup_in (by rw [List.length_map]; have := O.s1; omega) (by rw [List.length_map]; have := O.s2; omega)), badAt_none]
    · rfl
    · intro d hd
      obtain ⟨s, hs, rfl⟩ := List.mem_map.mp hd
      exact btw_in (O.s3 s hs).1 (O.s3 s hs).2
  have e2 : movesF (.tuple (C.moves.map pairI)) = .none := by
    show (if _ then _ else _) = _
    rw [if_pos (tup_in (by rw [List.length_map]; have := O.m1; omega) (by rw [List.length_map]; have := O.m2; omega)), badAt_none]
    · rfl
    · intro d hd
      obtain ⟨p, hp, rfl⟩ := List.mem_map.mp hd
      obtain ⟨⟨a1, a2⟩, b1, b2⟩ := O.m3 p hp
      show (btw (.int p.1) (-32) 32 && btw (.int p.2) (-15) 15) = true
      rw [btw_in a1 a2, btw_in b1 b2]
      rfl
  have e3 : fadeD (.int C.fade) = true := by
    unfold fadeD
    rcases O.f1 with h | ⟨h1, h2⟩
    · rw [btw_in (by omega) (by omega)]
      rfl
    · rw [btw_in h1 h2, Bool.or_true]
  show codF (.int C.low) (.int C.high) (.tuple (C.steps.map .int)) (.tuple (C.moves.map pairI)) (.int C.fade) = .none
  unfold codF
  rw [if_pos (btw_in O.l1 O.l2), if_pos (btw_in O.h1 O.h2), e1, e2, if_pos e3]
theorem dpAll_ints {K : PySem.W.Frag} {H : Hp} : ∀ {ns : List Int} {xs : List V}, DpAll K H xs (ns.map .int) → xs = ns.map V.int
  | [], _, h => by cases h; rfl
  | n :: r, _, h => by
    cases h with
    | cons a b =>
      cases a
      rw [dpAll_ints b]
      rfl
theorem dp_int {K : PySem.W.Frag} {H : Hp} {v : V} {n : Int} (h : Dp K H v (.int n)) : v = .int n := by
  cases h
  rfl
theorem dpAll2 {K : PySem.W.Frag} {H : Hp} {xs : List V} {a b : PyData} (h : DpAll K H xs [a, b]) : ∃ x1 x2, xs = [x1, x2] ∧ Dp K H x1 a ∧ Dp K H x2 b := by
  cases h with
  | cons h1 h => cases h with
    | cons h2 h => cases h with
      | nil => exact ⟨_, _, rfl, h1, h2⟩
theorem dp_pair {K : PySem.W.Frag} {H : Hp} {v : V} {p : Int × Int} (h : Dp K H v (pairI p)) : ∃ a, v = .ref a ∧ SqT K H a [.int p.1, .int p.2] := by
  obtain ⟨a, xs, rfl, ha, hd⟩ := dp_tup h
  obtain ⟨x1, x2, rfl, h1, h2⟩ := dpAll2 hd
  rw [dp_int h1, dp_int h2] at ha
  exact ⟨a, rfl, ha⟩
/-- a coder's parts -/
theorem cod_at {K : PySem.W.Frag} {H : Hp} {c : V} {C : Cod} (h : Dp K H c C.dat) : ∃ (a s m : Addr) (ms : List V), c = .ref a ∧ SqT K H a [.int C.low, .int C.high, .ref s, .ref m, .int C.fade] ∧
    SqT K H s (C.steps.map V.int) ∧ SqT K H m ms ∧ DpAll K H ms (C.moves.map pairI) := by
  obtain ⟨a, xs, rfl, ha, hd⟩ := dp_tup h
  obtain ⟨x1, x2, x3, x4, x5, rfl, h1, h2, h3, h4, h5⟩ := dpAll5 hd
  obtain ⟨s, ys, rfl, hs, hsd⟩ := dp_tup h3
  obtain ⟨m, ms, rfl, hm, hmd⟩ := dp_tup h4
  rw [dp_int h1, dp_int h2, dp_int h5] at ha
  rw [dpAll_ints hsd] at hs
  exact ⟨a, s, m, ms, rfl, ha, hs, hm, hmd⟩
theorem move_at {K : PySem.W.Frag} {H : Hp} {C : Cod} {ms : List V} (h : DpAll K H ms (C.moves.map pairI)) {k : Nat} (hk : k < C.moves.length) :
    ∃ q, ms[k]? = some (.ref q) ∧ SqT K H q [.int (C.moves.getD k (0, 0)).1, .int (C.moves.getD k (0, 0)).2] := by
  have e : (C.moves.map pairI)[k]? = some (pairI (C.moves.getD k (0, 0))) := by
    rw [List.getElem?_map, List.getElem?_eq_getElem hk, List.getD_eq_getElem?_getD, List.getElem?_eq_getElem hk]
    rfl
  obtain ⟨x, hx, hd⟩ := dpAll_get' h e
  obtain ⟨q, rfl, hq⟩ := dp_pair hd
  exact ⟨q, hx, hq⟩
theorem step_at {C : Cod} {p : Nat} (hp : p < C.steps.length) : (C.steps.map V.int)[p]? = some (.int (C.steps.getD p 0)) := by
  rw [List.getElem?_map, List.getElem?_eq_getElem hp, List.getD_eq_getElem?_getD, List.getElem?_eq_getElem hp]
  rfl
section
variable {P : Program} {w : World} {K : PySem.W.Frag} {mg : Str → Option Value} {base : Heap}
def sp_need_coder (K : PySem.W.Frag) : Sp := fun vs H Q _ => ∃ (x : V) (d : PyData), vs = [x] ∧ Dp K H x d ∧ firstF d = .none ∧ ∀ H', Same H H' → Q x H'
theorem ok_need_coder (T : Txt K mg) : FnOk P w K mg base CX0 6 T.f_need_coder T.d_need_coder ["thing"] (sp_need_coder K) := by
  refine T.F_need_coder.ok sc_need_coder (fun vs H Q E h => ?_) (fun cdv A outer s H vs Q E hr h => ?_)
  · obtain ⟨x, d, rfl, _⟩ := h
    rfl
  · obtain ⟨x, d, rfl, hd, h0, q⟩ := h
    refine ⟨_,
(pss_cons (ps_set (i := 1) sc_need_coder.nd rfl (Or.inl rfl) (pe_call (ok_first_fault T) (hr.mono (by decide)) (by rfl) T.g__first_fault T.F__first_fault.kp T.b__first_fault .nil pass0 (pa_cons (pv 0) pa_nil)))
      (pss_cons (ps_if (pt_cmpR op_notN (pv 1) pe_non (nomark _)) (pss_one ps_never) pss_nil)
      (pss_one (ps_ret (pv 0)))))
, ?_⟩
    refine ⟨x, rfl, x, d, rfl, hd, fun z H1 s1 hz => ?_⟩
    rw [h0] at hz
    cases hz
    refine ⟨_, rfl, rfl, _, rfl, ?_⟩
    refine iteF ?_
    exact ⟨x, rfl, q H1 s1⟩
def sp_is_code (K : PySem.W.Frag) : Sp := fun vs H Q _ => ∃ (c x : V) (C : Cod) (d : PyData), vs = [c, x] ∧ Dp K H c C.dat ∧ Dp K H x d ∧ ∀ H', Same H H' → Q (.bl (btw d 0 ((C.moves.length : Int) - 1))) H'
theorem ok_is_code (T : Txt K mg) : FnOk P w K mg base CX0 3 T.f_is_code T.d_is_code ["coder", "thing"] (sp_is_code K) := by
  refine T.F_is_code.ok sc_is_code (fun vs H Q E h => ?_) (fun cdv A outer s H vs Q E hr h => ?_)
  · obtain ⟨c, x, C, d, rfl, _⟩ := h
    rfl
  · obtain ⟨c, x, C, d, rfl, hc, hd, q⟩ := h
    obtain ⟨a, s, m, ms, rfl, ha, hs, hm, hmd⟩ := cod_at hc
    refine ⟨_,
(pss_one (ps_ret (pe_call (ok_is_between T) (hr.mono (by decide)) (by rfl) T.g_is_between T.F_is_between.kp T.b_is_between .nil pass0 (pa_cons (pv 1) (pa_cons pe_int (pa_cons (pe_op op_sub (pe_callB (call_len_seq) (by rfl) T.z_len (by decide +kernel) (pa_cons (pe_ix ix_tup (pv 0) pe_int (fun _ _ => rfl)) pa_nil)) pe_int) pa_nil))))))
, ?_⟩
    refine ⟨x, rfl, _, rfl, a, _, 3, .ref m, rfl, rfl, ha, atI_nat (j := 3) rfl, m, ms, rfl, .inr hm, _, _, rfl, rfl, ?_⟩
    have e : (ms.length : Int) - 1 = (C.moves.length : Int) - 1 := by rw [dpAll_len hmd, List.length_map]
    refine ⟨x, d, 0, _, rfl, hd, fun H1 s1 => ?_⟩
    show Q (.bl (btw d 0 ((ms.length : Int) - 1))) H1
    rw [e]
    exact q H1 s1
def stateD (C : Cod) : PyData → Bool
  | .tuple [a, b] => btw a C.low C.high && btw b 0 ((C.steps.length : Int) - 1)
  | _ => false
theorem pairD_two {d : PyData} (h : pairD d = true) : ∃ a b, d = .tuple [a, b] := by
  cases d with
  | tuple ds =>
    match ds, h with
    | [a, b], _ => exact ⟨a, b, rfl⟩
    | [], hp => cases hp
    | [a], hp => cases hp
    | a :: b :: c :: r, hp =>
      have := of_decide_eq_true (show decide (((a :: b :: c :: r).length : Int) = 2) = true from hp)
      simp at this
      omega
  | _ => cases h
end
end My

namespace My
open PySem PySem.Spec PyProof.Rows L2
def Cod.run (C : Cod) (s : Int × Int) : List Nat → Int × Int
  | [] => s
  | k :: r => Cod.run C (C.led s k) r
def Cod.lev (C : Cod) (s : Int × Int) : List Nat → List Int
  | [] => []
  | k :: r => (C.led s k).1 :: Cod.lev C (C.led s k) r
theorem run_snoc {C : Cod} : ∀ (r : List Nat) (s : Int × Int) (k : Nat), C.run s (r ++ [k]) = C.led (C.run s r) k
  | [], _, _ => rfl
  | j :: r, s, k => run_snoc r (C.led s j) k
theorem run_app {C : Cod} : ∀ (r : List Nat) (s : Int × Int) (q : List Nat), C.run s (r ++ q) = C.run (C.run s r) q
  | [], _, _ => rfl
  | j :: r, s, q => run_app r (C.led s j) q
theorem lev_snoc {C : Cod} : ∀ (r : List Nat) (s : Int × Int) (k : Nat), C.lev s (r ++ [k]) = C.lev s r ++ [(C.led (C.run s r) k).1]
  | [], _, _ => rfl
  | j :: r, s, k => by
    show (C.led s j).1 :: C.lev (C.led s j) (r ++ [k]) = _
    rw [lev_snoc r (C.led s j) k]
    rfl
theorem lev_app {C : Cod} : ∀ (r : List Nat) (s : Int × Int) (q : List Nat), C.lev s (r ++ q) = C.lev s r ++ C.lev (C.run s r) q
  | [], _, _ => rfl
  | j :: r, s, q => by
    show (C.led s j).1 :: C.lev (C.led s j) (r ++ q) = _
    rw [lev_app r (C.led s j) q]
    rfl
theorem lev_len {C : Cod} : ∀ (r : List Nat) (s : Int × Int), (C.lev s r).length = r.length
  | [], _ => rfl
  | j :: r, s => congrArg (· + 1) (lev_len r (C.led s j))
theorem run_St {C : Cod} (O : C.Ok) : ∀ (r : List Nat) {s : Int × Int}, C.St s → C.St (C.run s r)
  | [], _, h => h
  | k :: r, s, _ => run_St O r (C.led_St O s k)
theorem lev_in {C : Cod} (O : C.Ok) : ∀ (r : List Nat) (s : Int × Int), ∀ z ∈ C.lev s r, C.low ≤ z ∧ z ≤ C.high
  | [], _, _, h => by cases h
  | k :: r, s, z, h => by
    rcases List.mem_cons.mp h with e | e
    · rw [e]
      have := C.led_St O s k
      exact ⟨this.1, this.2.1⟩
    · exact lev_in O r _ z e
def rowI (r : List Nat) : PyData := .tuple (r.map fun k : Nat => PyData.int (k : Int))
def rowV (r : List Nat) : List V := r.map fun k : Nat => V.int (k : Int)
structure Cod.Row (C : Cod) (r : List Nat) : Prop where
  len : r.length ≤ 2000
  lt : ∀ k ∈ r, k < C.moves.length
theorem Cod.St.ok {C : Cod} {s : Int × Int} (h : C.St s) : stateD C (pairI s) = true := by
  show (btw (.int s.1) _ _ && btw (.int s.2) _ _) = true
  rw [btw_in h.1 h.2.1, btw_in h.2.2.1 (by have := h.2.2.2; omega)]
  rfl
theorem dpAll_row {K : PySem.W.Frag} {H : Hp} : ∀ {r : List Nat} {xs : List V}, DpAll K H xs (r.map fun k : Nat => PyData.int (k : Int)) → xs = rowV r
  | [], _, h => by cases h; rfl
  | n :: r, _, h => by
    cases h with
    | cons a b =>
      cases a
      rw [dpAll_row b]
      rfl
theorem row_at {K : PySem.W.Frag} {H : Hp} {v : V} {r : List Nat} (h : Dp K H v (rowI r)) : ∃ a, v = .ref a ∧ SqT K H a (rowV r) := by
  obtain ⟨a, xs, rfl, ha, hd⟩ := dp_tup h
  rw [dpAll_row hd] at ha
  exact ⟨a, rfl, ha⟩
theorem rowV_get {r : List Nat} {i : Nat} {x : V} (h : (rowV r)[i]? = some x) : ∃ k, r[i]? = some k ∧ x = .int (k : Int) := by
  unfold rowV at h
  rw [List.getElem?_map] at h
  cases e : r[i]? with
  | none => rw [e] at h; cases h
  | some k => rw [e] at h; exact ⟨k, rfl, (Option.some.inj h).symm⟩
theorem take_snoc {α : Type} {r : List α} {i : Nat} {k : α} (h : r[i]? = some k) : r.take (i + 1) = r.take i ++ [k] := by
  rw [List.take_add_one, h]
  rfl
/-- a tuple stands while a list is changed -/
theorem sqt_set {K : PySem.W.Frag} {H : Hp} {p a : Addr} {ys xs : List V} {o : HO} (hp : H p = some (.lst ys)) (h : SqT K H a xs) : SqT K (upd H p o) a xs := by
  rcases h with (h | ⟨u, h⟩) | h
  · exact .inl (.inl ((upd_ne (ne_of h hp nofun)).trans h))
  · exact .inl (.inr ⟨u, (upd_ne (ne_of h hp nofun)).trans h⟩)
  · exact .inr h
theorem dp_mkpair {K : PySem.W.Frag} {H : Hp} {a : Addr} {s : Int × Int} (h : SqT K H a [.int s.1, .int s.2]) : Dp K H (.ref a) (pairI s) := .tup h (.cons (.int _) (.cons (.int _) .nil))
theorem dp_tints {K : PySem.W.Frag} {H : Hp} {a : Addr} {ns : List Int} (h : SqT K H a (ns.map V.int)) : Dp K H (.ref a) (.tuple (ns.map .int)) := by
  refine .tup h ?_
  clear h
  induction ns with
  | nil => exact .nil
  | cons n r ih => exact .cons (.int n) ih
end My

namespace My
open PySem PySem.Spec PyProof.Rows L2
theorem dg_l {H : Hp} {m c l : Addr} {k : Int} (h : H m = some (.dK (dd c l k))) : DGet H m (.str "left") (some (.ref l)) := by
  have e := DGet.k (k := .inr "left") h
  rw [dd_l] at e
  exact e
theorem dg_c {H : Hp} {m c l : Addr} {k : Int} (h : H m = some (.dK (dd c l k))) : DGet H m (.str "cells") (some (.ref c)) := by
  have e := DGet.k (k := .inr "cells") h
  rw [dd_c] at e
  exact e
theorem dg_a {H : Hp} {m c l : Addr} {k : Int} (h : H m = some (.dK (dd c l k))) : DGet H m (.str "at") (some (.int k)) := by
  have e := DGet.k (k := .inr "at") h
  rw [dd_a] at e
  exact e
theorem dp_l {H : Hp} {m c l p : Addr} {k : Int} (h : H m = some (.dK (dd c l k))) : DPut H m (.str "left") (.ref p) (upd H m (.dK (dd c p k))) := by
  have e := DPut.k (k := .inr "left") (v := .ref p) h (by show 3 < sizeLine; decide)
  rw [dd_pl] at e
  exact e
theorem dp_a {H : Hp} {m c l : Addr} {k z : Int} (h : H m = some (.dK (dd c l k))) : DPut H m (.str "at") (.int z) (upd H m (.dK (dd c l z))) := by
  have e := DPut.k (k := .inr "at") (v := .int z) h (by show 3 < sizeLine; decide)
  rw [dd_pa] at e
  exact e
def pis (ns : List Int) : List PyData := ns.map .int
theorem dp_ints {K : PySem.W.Frag} {H : Hp} : ∀ ns : List Int, DpAll K H (ns.map V.int) (pis ns)
  | [] => .nil
  | n :: r => .cons (.int n) (dp_ints r)
theorem lay_ints : ∀ ns : List Int, PyData.canLayAll0 (pis ns) = true ∧ PyData.depthAll (pis ns) = 0
  | [] => ⟨rfl, rfl⟩
  | n :: r => by
    obtain ⟨h1, h2⟩ := lay_ints r
    exact ⟨by show ((PyData.int n).canLay0 && PyData.canLayAll0 (pis r)) = true; rw [h1]; rfl, by show max 0 (PyData.depthAll (pis r)) = 0; rw [h2]; rfl⟩
theorem shaped_ints (ns : List Int) : SeqAt.shaped (.list (pis ns)) = true := by
  obtain ⟨h1, h2⟩ := lay_ints ns
  show (PyData.canLayAll0 (pis ns) && decide (PyData.depthAll (pis ns) + 1 ≤ 64)) = true
  rw [h1, h2]
  rfl
theorem eqv_nil (ns : List Int) : PyData.eqv (.list (pis ns)) (.list []) = ns.isEmpty := by
  cases ns <;> rfl
section
variable {P : Program} {w : World} {K : PySem.W.Frag} {mg : Str → Option Value} {base : Heap}
theorem ixN_nat {n j : Nat} (h : j < n) : ixN n (j : Int) = some j := by
  unfold ixN
  rw [if_pos (by omega), if_pos (by omega)]
  simp
def sp_law_next : Sp := fun vs H Q _ => ∃ (m c l : Addr) (n : Nat) (many : Int), vs = [.ref m, .int many] ∧ 0 < many ∧ many < 2 ^ 40 ∧ Dr H m c l (n + 1) ∧
  ∀ (r : Int) (l' : Addr) (H' : Hp), 0 ≤ r → r < many → Kp m l H l' H' → Dr H' m c l' n → Q (.int r) H'
theorem ok_law_next (T : Txt K mg) : FnOk P w K mg base CX0 2 T.f__law_next T.d__law_next ["m", "many"] sp_law_next := by
  refine T.F__law_next.ok sc_law_next (fun vs H Q E h => ?_) (fun cdv A outer s H vs Q E hr h => ?_)
  · obtain ⟨m, c, l, n, many, rfl, _⟩ := h
    rfl
  · obtain ⟨m, c, l, n, many, rfl, p1, p2, D, q⟩ := h
    have hu := hu_of hr
    refine ⟨_,
(pss_cons (ps_while PassesOwn.never (PW.pt (pw_and (pt_cmpR (op_neD hr.units) (pe_dget hu (pv 0) pe_str (fun _ _ => rfl)) (pe_lst pa_nil) (nomark _)) (pw_and1 (pt_cmpR op_eq (pe_ix ix_list (pe_dget hu (pv 0) pe_str (fun _ _ => rfl)) pe_int (fun _ _ => rfl)) pe_int (nomark _))))) (pss_one (ps_dput hu (pv 0) pe_str (pe_slice sl_list (pe_dget hu (pv 0) pe_str (fun _ _ => rfl)) (po_some pe_int) po_none) rfl)))
      (pss_cons (ps_if (pt_cmpR (op_neD hr.units) (pe_dget hu (pv 0) pe_str (fun _ _ => rfl)) (pe_lst pa_nil) (nomark _)) (pss_cons (ps_set (i := 2) sc_law_next.nd rfl (Or.inl rfl) (pe_callTy call_int1 (by rfl) T.z_int (by decide +kernel) (pa_cons (pe_ix ix_list (pe_dget hu (pv 0) pe_str (fun _ _ => rfl)) pe_int (fun _ _ => rfl)) pa_nil)))
      (pss_cons (ps_asg (pe_op op_fdivW (pv 2) (pv 1)) (pg_sub (pe_dget hu (pv 0) pe_str (fun _ _ => rfl)) pe_int set_list))
      (pss_one (ps_ret (pe_op op_modN (pv 2) (pv 1)))))) pss_nil)
      (pss_cons (ps_set (i := 3) sc_law_next.nd rfl (Or.inl rfl) (pe_op op_add (pe_dget hu (pv 0) pe_str (fun _ _ => rfl)) pe_int))
      (pss_cons (ps_dput hu (pv 0) pe_str (pv 3) rfl)
      (pss_cons (ps_set (i := 4) sc_law_next.nd rfl (Or.inl rfl) (pe_ifExp (pt_cmpR (op_neD hr.units) (pe_dget hu (pv 0) pe_str (fun _ _ => rfl)) (pe_lst pa_nil) (nomark _)) (pe_ix ix_list (pe_dget hu (pv 0) pe_str (fun _ _ => rfl)) (pe_op op_modN (pe_callTy call_int1 (by rfl) T.z_int (by decide +kernel) (pa_cons (pv 3) pa_nil)) (pe_callB (call_len_seq) (by rfl) T.z_len (by decide +kernel) (pa_cons (pe_dget hu (pv 0) pe_str (fun _ _ => rfl)) pa_nil))) (fun _ _ => rfl)) pe_int))
      (pss_cons (ps_set (i := 5) sc_law_next.nd rfl (Or.inl rfl) (pe_op op_mul (pe_callTy call_int1 (by rfl) T.z_int (by decide +kernel) (pa_cons (pe_op op_add (pe_op op_add (pe_op op_modN (pe_callTy call_int1 (by rfl) T.z_int (by decide +kernel) (pa_cons (pv 4) pa_nil)) pe_int) (pe_op op_mul pe_int (pv 3))) (pe_op op_mul (pe_op op_mul pe_int (pv 3)) (pv 3))) pa_nil)) pe_int))
      (pss_cons (ps_set (i := 5) sc_law_next.nd rfl (Or.inl rfl) (pe_op op_mul (pe_callTy call_int1 (by rfl) T.z_int (by decide +kernel) (pa_cons (pe_op op_add (pe_op op_modN (pe_callTy call_int1 (by rfl) T.z_int (by decide +kernel) (pa_cons (pv 5) pa_nil)) pe_int) (pe_op op_mul pe_int (pv 3))) pa_nil)) pe_int))
      (pss_one (ps_ret (pe_op op_modN (pe_callTy call_int1 (by rfl) T.z_int (by decide +kernel) (pa_cons (pe_op op_fdivN (pe_op op_modN (pe_callTy call_int1 (by rfl) T.z_int (by decide +kernel) (pa_cons (pv 5) pa_nil)) pe_int) pe_int) pa_nil)) (pv 1)))))))))))
, ?_⟩
    refine st_tail (fun σ H' => ∃ (l' : Addr), σ = [some (.ref m), some (.int many), none, none, none, none] ∧ Kp m l H l' H' ∧ Dr H' m c l' (n + 1)) ?_ fun tail => ?_
    · rintro σ H1 ⟨l1, rfl, kp, D1⟩
      obtain ⟨cs, ls, k, h1, h2, h3, ncl, lc, ll, pos, k0, kn⟩ := D1.ex
      have nml : m ≠ l1 := ne_of h1 h3 nofun
      have nmc : m ≠ c := ne_of h1 h2 nofun
      -- if m['left'] != []
      refine ⟨_, rfl, m, .ref l1, rfl, dg_l h1, Nat.zero_le _, fun p hp => ?_⟩
      have g1 := same_new (o := .lst []) hp _ _ h1
      have g2 := same_new (o := .lst []) hp _ _ h2
      have g3 := same_new (o := .lst []) hp _ _ h3
      refine ⟨.list (pis ls), .list [], .lst (SqL.of g3) (dp_ints ls), .lst (SqL.of upd_same) .nil, shaped_ints ls, by rfl, _, rfl, ?_⟩
      rw [eqv_nil]
      have kp2 : Kp m l H l1 (upd H1 p (.lst [])) := kp.trans (Kp.new hp)
      have D2 : Dr (upd H1 p (.lst [])) m c l1 (n + 1) := D1.new hp
      cases ls with
      | cons x r =>
        refine iteT ?_
        have x0 : 0 ≤ x := pos x List.mem_cons_self
        refine ⟨_, rfl, m, .ref l1, rfl, dg_l g1, l1, _, 0, .int x, rfl, rfl, SqL.of g3, atI_nat (j := 0) rfl, .inl ⟨x, rfl, ?_⟩⟩
        -- m['left'][0] = rest // many
        refine ⟨_, rfl, _, rfl, x, many, rfl, rfl, wide_div (b := 40) p1 (by omega) (by decide) (by decide), _, rfl, m, .ref l1, rfl, dg_l g1, l1, _, 0, 0, rfl, rfl, g3, ixN_nat (j := 0) (by simp), ?_⟩
        refine ⟨_, rfl, _, rfl, x, many, rfl, rfl, by omega, ?_⟩
        show Q (.int (x.fmod many)) (upd (upd H1 p (.lst [])) l1 (.lst (((x / many) :: r).map V.int)))
        rw [Int.fmod_eq_emod_of_nonneg x (by omega)]
        refine q _ l1 _ (Int.emod_nonneg _ (by omega)) (Int.emod_lt_of_pos _ p1) ⟨fun b o hb n1 n2 => ?_, kp2.nw, fun b hb => ?_⟩ ⟨cs, (x / many) :: r, k, ?_, ?_, ?_, ncl, lc, ll, ?_, k0, by omega⟩
        · have e := kp2.st b o hb n1 n2
          rw [upd_ne (kp2.off hb n2)]
          exact e
        · refine kp2.dm b ?_
          unfold upd at hb ⊢
          split at hb
          · cases hb
          · exact hb
        · rw [upd_ne nml]; exact g1
        · rw [upd_ne ncl]; exact g2
        · exact upd_same
        · intro y hy
          rcases List.mem_cons.mp hy with e | e
          · rw [e]; exact Int.ediv_nonneg x0 (by omega)
          · exact pos y (List.mem_cons_of_mem _ e)
      | nil =>
        refine iteF ?_
        refine ⟨_, rfl, m, .int k, rfl, dg_a g1, _, _, rfl, rfl, _, rfl, _, rfl, m, _, rfl, dp_a g1, ?_⟩
        have a1 : (upd (upd H1 p (.lst [])) m (.dK (dd c l1 (k + 1)))) m = some (.dK (dd c l1 (k + 1))) := upd_same
        have a2 := (upd_ne (H := upd H1 p (.lst [])) (o := .dK (dd c l1 (k + 1))) nmc.symm).trans g2
        have a3 := (upd_ne (H := upd H1 p (.lst [])) (o := .dK (dd c l1 (k + 1))) nml.symm).trans g3
        have kp3 : Kp m l H l1 (upd (upd H1 p (.lst [])) m (.dK (dd c l1 (k + 1)))) := ⟨fun b o hb n1 n2 => (upd_ne n1).trans (kp2.st b o hb n1 n2), kp2.nw, fun b hb => kp2.dm b (by
          unfold upd at hb ⊢
          split at hb
          · cases hb
          · exact hb)⟩
        have D3 : Dr (upd (upd H1 p (.lst [])) m (.dK (dd c l1 (k + 1)))) m c l1 n := ⟨cs, [], k + 1, a1, a2, a3, ncl, lc, ll, pos, by omega, by omega⟩
        generalize upd (upd H1 p (.lst [])) m (.dK (dd c l1 (k + 1))) = H3 at a1 a2 a3 kp3 D3
        -- cell
        dsimp only
        refine st_tail (fun σ H' => ∃ (z : Int), σ = [some (.ref m), some (.int many), none, some (.int (k + 1)), some (.int z), none] ∧ Kp m l H l1 H' ∧ Dr H' m c l1 n) ?_ fun tail => ?_
        · rintro σ H4 ⟨z, rfl, kp4, D4⟩
          have kb : k + 1 ≤ 1000000 := by omega
          refine ⟨_, rfl, .inl ⟨z, rfl, _, _, rfl, rfl, (show (2147483629 : Int) ≠ 0 by decide), _, rfl, _, _, rfl, rfl, .inl ⟨by decide, by decide⟩, _, _, rfl, rfl, _, rfl, _, _, rfl, rfl, .inl ⟨by decide, by decide⟩,
            _, rfl, _, _, rfl, rfl, .inl ⟨by show -(2 ^ 64) < 19 * (k + 1); omega, by show 19 * (k + 1) < 2 ^ 64; omega⟩, _, _, rfl, rfl, .inl ⟨_, rfl, _, _, rfl, rfl, .inr ⟨by decide, by decide⟩, ?_⟩⟩⟩
          refine ⟨_, rfl, .inl ⟨_, rfl, _, _, rfl, rfl, (show (2147483647 : Int) ≠ 0 by decide), _, rfl, _, _, rfl, rfl, .inl ⟨by decide, by decide⟩, _, _, rfl, rfl, .inl ⟨_, rfl, _, _, rfl, rfl, .inr ⟨by decide, by decide⟩, ?_⟩⟩⟩
          refine ⟨_, rfl, .inl ⟨_, rfl, _, _, rfl, rfl, (show (2147483587 : Int) ≠ 0 by decide), _, _, rfl, rfl, ⟨by decide, by decide⟩, .inl ⟨_, rfl, _, rfl, _, _, rfl, rfl, by omega, ?_⟩⟩⟩
          refine q _ l1 _ ?_ ?_ kp4 D4
          · rw [Int.fmod_eq_emod_of_nonneg _ (by omega)]
            exact Int.emod_nonneg _ (by omega)
          · rw [Int.fmod_eq_emod_of_nonneg _ (by omega)]
            exact Int.emod_lt_of_pos _ p1
        refine ⟨_, rfl, m, .ref c, rfl, dg_c a1, Nat.zero_le _, fun p' hp' => ?_⟩
        have b1 := same_new (o := .lst []) hp' _ _ a1
        have b2 := same_new (o := .lst []) hp' _ _ a2
        refine ⟨.list (pis cs), .list [], .lst (SqL.of b2) (dp_ints cs), .lst (SqL.of upd_same) .nil, shaped_ints cs, by rfl, _, rfl, ?_⟩
        rw [eqv_nil]
        have kp4 : Kp m l H l1 (upd H3 p' (.lst [])) := kp3.trans (Kp.new hp')
        have D4 : Dr (upd H3 p' (.lst [])) m c l1 n := D3.new hp'
        cases cs with
        | nil =>
          refine iteF ?_
          exact tail _ _ ⟨3, rfl, kp4, D4⟩
        | cons y r =>
          refine iteT ?_
          obtain ⟨j, z, hj⟩ : ∃ (j : Nat) (z : Int), (k + 1).fmod (((y :: r).map V.int).length : Int) = (j : Int) ∧ ((y :: r).map V.int)[j]? = some (.int z) := by
            have hl : (0 : Int) < (((y :: r).map V.int).length : Int) := by
              show (0 : Int) < (((r.map V.int).length + 1 : Nat) : Int)
              omega
            rw [Int.fmod_eq_emod_of_nonneg _ (by omega)]
            have e1 := Int.emod_nonneg (k + 1) (b := (((y :: r).map V.int).length : Int)) (by omega)
            have e2 := Int.emod_lt_of_pos (k + 1) hl
            have hj : ((k + 1) % (((y :: r).map V.int).length : Int)).toNat < (y :: r).length := by
              have : ((y :: r).map V.int).length = (y :: r).length := List.length_map ..
              omega
            refine ⟨((k + 1) % (((y :: r).map V.int).length : Int)).toNat, (y :: r)[((k + 1) % (((y :: r).map V.int).length : Int)).toNat], by omega, ?_⟩
            rw [List.getElem?_map, List.getElem?_eq_getElem hj]
            rfl
          refine ⟨_, rfl, m, .ref c, rfl, dg_c b1, _, rfl, .inl ⟨_, rfl, _, rfl, m, .ref c, rfl, dg_c b1, c, _, rfl, .inl (SqL.of b2), _, _, rfl, rfl, by show (((y :: r).map V.int).length : Int) ≠ 0; simp; omega, c, _, _, .int z, rfl, rfl, SqL.of b2, ?_, ?_⟩⟩
          · show atI _ ((k + 1).fmod (((y :: r).map V.int).length : Int)) = some _
            rw [hj.1]
            exact atI_nat hj.2
          exact tail _ _ ⟨z, rfl, kp4, D4⟩
    -- the loop
    refine ⟨fun cnt σ H' => ∃ (l' : Addr) (cs ls : List Int) (k : Int), σ = [some (.ref m), some (.int many), none, none, none, none] ∧ Kp m l H l' H' ∧ ls.length = cnt ∧
      H' m = some (.dK (dd c l' k)) ∧ H' c = some (.lst (cs.map V.int)) ∧ H' l' = some (.lst (ls.map V.int)) ∧ c ≠ l' ∧
      cs.length ≤ 63 ∧ ls.length ≤ 63 ∧ (∀ x ∈ ls, 0 ≤ x) ∧ 0 ≤ k ∧ k + ((n + 1 : Nat) : Int) ≤ 1000000, ?_, ?_⟩
    · obtain ⟨cs, ls, k, r⟩ := D.ex
      exact ⟨ls.length, l, cs, ls, k, rfl, Kp.refl m l H, rfl, r⟩
    rintro cnt σ H1 ⟨l1, cs, ls, k, rfl, kp, hcnt, h1, h2, h3, ncl, lc, ll, pos, k0, kn⟩
    have nml : m ≠ l1 := ne_of h1 h3 nofun
    have nmc : m ≠ c := ne_of h1 h2 nofun
    refine ⟨_, rfl, m, .ref l1, rfl, dg_l h1, Nat.zero_le _, fun p hp => ?_⟩
    have g1 := same_new (o := .lst []) hp _ _ h1
    have g2 := same_new (o := .lst []) hp _ _ h2
    have g3 := same_new (o := .lst []) hp _ _ h3
    have kp2 : Kp m l H l1 (upd H1 p (.lst [])) := kp.trans (Kp.new hp)
    have D2 : Dr (upd H1 p (.lst [])) m c l1 (n + 1) := ⟨cs, ls, k, g1, g2, g3, ncl, lc, ll, pos, k0, kn⟩
    refine ⟨.list (pis ls), .list [], .lst (SqL.of g3) (dp_ints ls), .lst (SqL.of upd_same) .nil, shaped_ints ls, by rfl, _, rfl, ?_⟩
    rw [eqv_nil]
    cases ls with
    | nil =>
      refine iteF ?_
      refine iteF ?_
      exact tail _ _ ⟨l1, rfl, kp2, D2⟩
    | cons x r =>
      refine iteT ?_
      refine ⟨_, rfl, m, .ref l1, rfl, dg_l g1, l1, _, 0, .int x, rfl, rfl, SqL.of g3, atI_nat (j := 0) rfl, rfl, _, rfl, ?_⟩
      refine ite2 (fun e => ?_) (fun e => tail _ _ ⟨l1, rfl, kp2, D2⟩)
      generalize upd H1 p (.lst []) = H3 at g1 g2 g3 kp2 D2
      refine ⟨_, fun σ' H' hN => hN, ?_⟩
      refine ⟨_, rfl, m, .ref l1, rfl, dg_l g1, 1, rfl, l1, _, rfl, SqL.of g3, fun p2 hp2 => ⟨_, rfl, m, _, rfl, dp_l (same_new hp2 _ _ g1), ?_⟩⟩
      have np1 : p2 ≠ m := (ne_of_none g1 hp2).symm
      have np2 : p2 ≠ c := (ne_of_none g2 hp2).symm
      refine ⟨r.length, by rw [← hcnt]; simp, p2, cs, r, k, rfl, ⟨fun b o hb q1 q2 => ?_, ?_, fun b hb => ?_⟩, rfl, upd_same, (upd_ne nmc.symm).trans ((upd_ne np2.symm).trans g2), (upd_ne np1).trans ?_, np2.symm, lc, by simp at ll ⊢; omega, fun y hy => pos y (List.mem_cons_of_mem _ hy), k0, kn⟩
      · have e := kp2.st b o hb q1 q2
        rw [upd_ne q1, upd_ne (ne_of_none e hp2)]
        exact e
      · exact .inr (kp2.dm _ hp2)
      · refine kp2.dm b ?_
        unfold upd at hb
        split at hb
        · cases hb
        · split at hb
          · cases hb
          · exact hb
      · rw [upd_same]
        unfold cutV
        rw [HT.sIx_none, show HT.sIx ((x :: r).map V.int).length 0 (some 1) = min 1 ((x :: r).map V.int).length from HT.sIx_nat _ 0 1, show min 1 ((x :: r).map V.int).length = 1 by simp]
        show some (HO.lst (List.take (((x :: r).map V.int).length - 1) (r.map V.int))) = _
        rw [List.take_of_length_le (by simp)]
def sp_law_begun (K : PySem.W.Frag) : Sp := fun vs H Q _ => ∃ (a : Addr) (ns : List Int), vs = [.ref a] ∧ SqL K H a (ns.map V.int) ∧ ns.length ≤ 63 ∧
  ∀ (m c l : Addr) (H' : Hp), Same H H' → H m = none → H c = none → H l = none → Dr H' m c l 900000 → Q (.ref m) H'
theorem ok_law_begun (T : Txt K mg) : FnOk P w K mg base CX0 2 T.f__law_begun T.d__law_begun ["script"] (sp_law_begun K) := by
  refine T.F__law_begun.ok sc_law_begun (fun vs H Q E h => ?_) (fun cdv A outer s H vs Q E hr h => ?_)
  · obtain ⟨a, ns, rfl, _⟩ := h
    rfl
  · obtain ⟨a, ns, rfl, hS, hl, q⟩ := h
    have hu := hu_of hr
    refine ⟨_,
(pss_one (ps_ret (pe_disp (pps_cons pe_str (pe_callTy call_list_of (by rfl) T.z_list (by decide +kernel) (pa_cons (pv 0) pa_nil)) (pps_cons pe_str (pe_lc (own := [("cell", 1)]) rfl sc_law_begun.nd (pi_list (pv 0)) (blkOk_by (own := [("cell", 1)]) (N := ["script", "cell"]) (sc := defScope s_law_begun) (by decide +kernel)) (fun _ _ _ _ _ => (pg_name (i := 1) sc_law_begun.nd rfl (Or.inl rfl))) (fun _ _ _ _ _ => pts_one (pt_cmpR op_ge (pv 1) (pe_op op_pow pe_int pe_int) (nomark _))) (fun _ _ _ _ _ => (pv 1))) (pps_cons pe_str pe_int pps_nil))) (by rfl) (by rfl) (fun z => by cases z) (by decide))))
, ?_⟩
    intro p hp
    have s1 : Same H (upd H p (.dK [])) := same_new hp
    refine ⟨.ref a, rfl, a, _, rfl, .inl (s1.seq hS), fun c hc => ?_⟩
    have s2 := s1.trans (same_new (o := .lst (ns.map V.int)) hc)
    have ncp : p ≠ c := fun e => by rw [← e, upd_same] at hc; cases hc
    have e1 : upd (upd H p (.dK [])) c (.lst (ns.map V.int)) p = some (.dK []) := (upd_ne ncp).trans upd_same
    have e2 : upd (upd H p (.dK [])) c (.lst (ns.map V.int)) c = some (.lst (ns.map V.int)) := upd_same
    have hc0 : H c = none := s1.free hc
    generalize upd (upd H p (.dK [])) c (.lst (ns.map V.int)) = H1 at s2 e1 e2
    refine ⟨.ref a, rfl, a, rfl, ⟨_, s2.seq hS⟩, fun l hD => ?_⟩
    have nlp : p ≠ l := ne_of_none e1 hD
    have nlc : c ≠ l := ne_of_none e2 hD
    have hl0 : H l = none := s2.free hD
    refine lc_list (K := K) (a := a) (xs := ns.map V.int) (fun i H' => ∃ ls : List Int, ls.length ≤ i ∧ (∀ x ∈ ls, 0 ≤ x) ∧ H' = upd H1 l (.lst (ls.map V.int))) ⟨[], by simp, by simp, rfl⟩ ?_ ?_ ?_
    · rintro i H' _ ⟨ls, _, _, rfl⟩
      exact (same_new hD).seq (s2.seq hS)
    · rintro i x H' hx ⟨ls, h1, h2, rfl⟩
      obtain ⟨z, rfl⟩ : ∃ z, x = V.int z := by
        rw [List.getElem?_map] at hx
        cases e : ns[i]? with
        | none => rw [e] at hx; cases hx
        | some z => rw [e] at hx; exact ⟨z, (Option.some.inj hx).symm⟩
      have hi : i < 63 := by
        have := (List.getElem?_eq_some_iff.mp hx).1
        rw [List.length_map] at this
        omega
      refine ⟨rfl, _, rfl, 10, 18, rfl, rfl, ⟨by decide, by decide, by decide⟩, z, 1000000000000000000, rfl, rfl, _, rfl, ?_⟩
      refine ite2 (fun e => ?_) (fun e => ⟨ls, by omega, h2, rfl⟩)
      refine ⟨.int z, rfl, _, upd_same, ?_, ls ++ [z], ?_, ?_, ?_⟩
      · rw [List.length_map]; exact small1000 (by omega)
      · simp; omega
      · intro y hy
        rcases List.mem_append.mp hy with k | k
        · exact h2 y k
        · rw [List.mem_singleton.mp k]
          have := of_decide_eq_true e
          omega
      · rw [upd_upd, List.map_append]
        rfl
    · rintro H' ⟨ls, h1, h2, rfl⟩
      refine ⟨(upd_ne nlp).trans e1, [(Sum.inr "cells", V.ref c), (Sum.inr "left", V.ref l), (Sum.inr "at", V.int 0)], rfl, by show 3 ≤ 15; decide, ?_⟩
      rw [dd_mk]
      refine q p c l _ (fun b o hb => ?_) hp hc0 hl0 ⟨ns, ls, 0, upd_same, ?_, ?_, nlc, hl, by rw [List.length_map] at h1; omega, h2, by decide, by decide⟩
      · rw [upd_ne (ne_of_none hb hp), upd_ne (ne_of_none hb hl0)]
        exact s2 _ _ hb
      · rw [upd_ne ncp.symm, upd_ne nlc]; exact e2
      · rw [upd_ne nlp.symm, upd_same]
end
end My

namespace My
open PySem PySem.Spec PyProof.Rows L2
theorem dpAll_app {K : PySem.W.Frag} {H : Hp} : ∀ {xs ys : List V} {ds es : List PyData}, DpAll K H xs ds → DpAll K H ys es → DpAll K H (xs ++ ys) (ds ++ es)
  | _, _, _, _, .nil, h => h
  | _, _, _, _, .cons a b, h => .cons a (dpAll_app b h)
theorem pairs_set {K : PySem.W.Frag} {H : Hp} {p : Addr} {zs : List V} {o : HO} (hp : H p = some (.lst zs)) : ∀ {ss : List (Int × Int)} {xs : List V}, DpAll K H xs (ss.map pairI) → DpAll K (upd H p o) xs (ss.map pairI)
  | [], _, h => by cases h; exact .nil
  | s :: r, _, h => by
    cases h with
    | cons a b =>
      obtain ⟨t, rfl, ht⟩ := dp_pair a
      exact .cons (dp_mkpair (sqt_set hp ht)) (pairs_set hp b)
/-! ### what stands through draws: tuples -/
def Tp : HO → Prop
  | .tup _ => True
  | .frz _ _ => True
  | _ => False
def Keep (H H' : Hp) : Prop := ∀ b o, H b = some o → Tp o → H' b = some o
theorem Keep.refl (H : Hp) : Keep H H := fun _ _ h _ => h
theorem Keep.trans {H H1 H2 : Hp} (a : Keep H H1) (b : Keep H1 H2) : Keep H H2 := fun c o h t => b c o (a c o h t) t
theorem keep_same {H H' : Hp} (s : Same H H') : Keep H H' := fun b o h _ => s b o h
theorem keep_set {H : Hp} {p : Addr} {ys : List V} {o : HO} (hp : H p = some (.lst ys)) : Keep H (upd H p o) := fun b u h t => by
  have nb : b ≠ p := fun e => by
    rw [e, hp] at h
    cases h
    exact t
  rw [upd_ne nb]
  exact h
theorem keep_draw {m c l l' n : Addr} {H H' : Hp} (k : Kp m l H l' H') (d : Dr H m c l n) : Keep H H' := fun b o h t => by
  obtain ⟨cs, ls, z, h1, h2, h3, r⟩ := d.ex
  refine k.st b o h (fun e => ?_) (fun e => ?_)
  · rw [e, h1] at h
    cases h
    exact t
  · rw [e, h3] at h
    cases h
    exact t
theorem Keep.tup {K : PySem.W.Frag} {H H' : Hp} {a : Addr} {xs : List V} (k : Keep H H') (h : SqT K H a xs) : SqT K H' a xs := by
  rcases h with (h | ⟨u, h⟩) | h
  · exact .inl (.inl (k _ _ h trivial))
  · exact .inl (.inr ⟨u, k _ _ h trivial⟩)
  · exact .inr h
mutual
def noL : PyData → Bool
  | .list _ => false
  | .tuple ds => noLs ds
  | _ => true
def noLs : List PyData → Bool
  | [] => true
  | d :: r => noL d && noLs r
end
mutual
theorem dp_keep {K : PySem.W.Frag} {H H' : Hp} (s : Keep H H') : ∀ (d : PyData) (v : V), noL d = true → Dp K H v d → Dp K H' v d
  | .none, _, _, h => by cases h; exact .non
  | .bool _, _, _, h => by cases h; exact .bl _
  | .int _, _, _, h => by cases h; exact .int _
  | .str _, _, _, h => by cases h; exact .str _
  | .list ds, _, n, h => by cases n
  | .tuple ds, _, n, h => by
    cases h with
    | tup a b => exact .tup (s.tup a) (dpAll_keep s ds _ n b)
  | .dict _, _, _, h => by cases h
theorem dpAll_keep {K : PySem.W.Frag} {H H' : Hp} (s : Keep H H') : ∀ (ds : List PyData) (vs : List V), noLs ds = true → DpAll K H vs ds → DpAll K H' vs ds
  | [], _, _, h => by cases h; exact .nil
  | d :: ds, _, n, h => by
    cases h with
    | cons a b =>
      obtain ⟨n1, n2⟩ := Bool.and_eq_true_iff.mp (show (noL d && noLs ds) = true from n)
      exact .cons (dp_keep s d _ n1 a) (dpAll_keep s ds _ n2 b)
end
theorem noLs_all : ∀ {ds : List PyData}, (∀ d ∈ ds, noL d = true) → noLs ds = true
  | [], _ => rfl
  | d :: r, h => by
    show (noL d && noLs r) = true
    rw [h d List.mem_cons_self, noLs_all fun e he => h e (List.mem_cons_of_mem _ he)]
    rfl
theorem noL_pair (p : Int × Int) : noL (pairI p) = true := rfl
theorem noLs_pairs (ps : List (Int × Int)) : noLs (ps.map pairI) = true := noLs_all fun d hd => by
  obtain ⟨p, _, rfl⟩ := List.mem_map.mp hd
  rfl
theorem noLs_ints (ns : List Int) : noLs (ns.map .int) = true := noLs_all fun d hd => by
  obtain ⟨p, _, rfl⟩ := List.mem_map.mp hd
  rfl
theorem noL_row (r : List Nat) : noL (rowI r) = true := noLs_all fun d hd => by
  obtain ⟨p, _, rfl⟩ := List.mem_map.mp hd
  rfl
theorem noL_cod (C : Cod) : noL C.dat = true := by
  show (true && (true && (noLs (C.steps.map .int) && (noLs (C.moves.map pairI) && (true && true))))) = true
  rw [noLs_ints, noLs_pairs]
  rfl
/-- an own list through a draw -/
theorem Kp.own {m l l' : Addr} {H H' : Hp} (k : Kp m l H l' H') {p : Addr} {o : HO} (h : H p = some o) (n1 : p ≠ m) (n2 : p ≠ l) : H' p = some o ∧ p ≠ l' := ⟨k.st p o h n1 n2, k.off h n2⟩
/-- a change of an own list: for what stood ahead of it -/
theorem Kp.set {m l l' : Addr} {H H' : Hp} (k : Kp m l H l' H') {p : Addr} {o : HO} (h : H p = none) : Kp m l H l' (upd H' p o) := by
  refine ⟨fun b u hb n1 n2 => ?_, k.nw, fun b hb => ?_⟩
  · rw [upd_ne (ne_of_none hb h)]
    exact k.st b u hb n1 n2
  · unfold upd at hb
    split at hb
    · cases hb
    · exact k.dm b hb
/-- a list of one's own, apart from the drawer -/
structure Own (H : Hp) (m c l p : Addr) (xs : List V) : Prop where
  st : H p = some (.lst xs)
  nm : p ≠ m
  nc : p ≠ c
  nl : p ≠ l
theorem own_mk {H : Hp} {m c l p n : Nat} {xs : List V} (D : Dr H m c l n) (hp : H p = none) : Own (upd H p (.lst xs)) m c l p xs := by
  obtain ⟨cs, ls, z, e1, e2, e3, _⟩ := D.ex
  exact ⟨upd_same, (ne_of_none e1 hp).symm, (ne_of_none e2 hp).symm, (ne_of_none e3 hp).symm⟩
theorem Own.kp {H H' : Hp} {m c l l' p : Addr} {xs : List V} (o : Own H m c l p xs) (k : Kp m l H l' H') : Own H' m c l' p xs := ⟨k.st p _ o.st o.nm o.nl, o.nm, o.nc, k.off o.st o.nl⟩
theorem Own.same {H H' : Hp} {m c l p : Addr} {xs : List V} (o : Own H m c l p xs) (s : Same H H') : Own H' m c l p xs := ⟨s _ _ o.st, o.nm, o.nc, o.nl⟩
theorem Own.set {H : Hp} {m c l p q : Addr} {xs : List V} {u : HO} (o : Own H m c l p xs) (h : p ≠ q) : Own (upd H q u) m c l p xs := ⟨(upd_ne h).trans o.st, o.nm, o.nc, o.nl⟩
theorem Own.put {H : Hp} {m c l p : Addr} {xs ys : List V} (o : Own H m c l p xs) : Own (upd H p (.lst ys)) m c l p ys := ⟨upd_same, o.nm, o.nc, o.nl⟩
theorem Dr.put {H : Hp} {m c l n p : Nat} {xs ys : List V} (D : Dr H m c l n) (o : Own H m c l p xs) : Dr (upd H p (.lst ys)) m c l n := D.set o.nm o.nc o.nl
theorem Own.ne {H : Hp} {m c l p q : Addr} {xs : List V} (o : Own H m c l p xs) (h : H q = none) : p ≠ q := ne_of_none o.st h
theorem at3 {a b c : V} {g : Int} (h0 : 0 ≤ g) (h1 : g < 3) : ∃ v, atI [a, b, c] g = some v ∧ (v = a ∨ v = b ∨ v = c) := by
  have hg : g = 0 ∨ g = 1 ∨ g = 2 := by omega
  rcases hg with e | e | e <;> subst e
  · exact ⟨a, atI_nat (j := 0) rfl, .inl rfl⟩
  · exact ⟨b, atI_nat (j := 1) rfl, .inr (.inl rfl)⟩
  · exact ⟨c, atI_nat (j := 2) rfl, .inr (.inr rfl)⟩
theorem at4 {a b c d : V} {g : Int} (h0 : 0 ≤ g) (h1 : g < 4) : ∃ v, atI [a, b, c, d] g = some v ∧ (v = a ∨ v = b ∨ v = c ∨ v = d) := by
  have hg : g = 0 ∨ g = 1 ∨ g = 2 ∨ g = 3 := by omega
  rcases hg with e | e | e | e <;> subst e
  · exact ⟨a, atI_nat (j := 0) rfl, .inl rfl⟩
  · exact ⟨b, atI_nat (j := 1) rfl, .inr (.inl rfl)⟩
  · exact ⟨c, atI_nat (j := 2) rfl, .inr (.inr (.inl rfl))⟩
  · exact ⟨d, atI_nat (j := 3) rfl, .inr (.inr (.inr rfl))⟩
section
variable {P : Program} {w : World} {K : PySem.W.Frag} {mg : Str → Option Value} {base : Heap}
theorem yes_turn {te : TE} {σ : L2.St} {H : Hp} {Q : VK} {R : Hp → Prop} (h : te σ H Q) : tYes σ H fun b H3 => if b = true then te σ H3 Q else R H3 := by
  show if true = true then te σ H Q else R H
  rw [if_pos rfl]
  exact h
/-- n draws at most, behind which z stands for something of which G holds -/
def spDraw (args : Addr → List V → Prop) (n : Nat) (G : Hp → V → Prop) : Sp := fun vs H Q _ => ∃ (m c l : Addr) (k : Nat), args m vs ∧ Dr H m c l (k + n) ∧
  ∀ z l' H', Kp m l H l' H' → Dr H' m c l' k → G H' z → Q z H'
/-- what a drawn coder is like -/
structure Small (C : Cod) (wide places codes : Int) : Prop where
  lo : -wide ≤ C.low ∧ C.low ≤ 0
  hi : 0 ≤ C.high ∧ C.high ≤ wide
  st : 1 ≤ C.steps.length ∧ (C.steps.length : Int) ≤ places
  ss : ∀ s ∈ C.steps, 1 ≤ s ∧ s ≤ 2 * wide + 2
  mv : 2 ≤ C.moves.length ∧ (C.moves.length : Int) ≤ codes
  mm : ∀ p ∈ C.moves, (-16 ≤ p.1 ∧ p.1 ≤ 16) ∧ (-2 ≤ p.2 ∧ p.2 ≤ 2)
  fd : C.fade = 0 ∨ (2 ≤ C.fade ∧ C.fade ≤ 5)
theorem Small.ok {C : Cod} {wide places codes : Int} (h : Small C wide places codes) (h1 : wide ≤ 4000) (h2 : places ≤ 16) (h3 : codes ≤ 16) : C.Ok := by
  obtain ⟨⟨a1, a2⟩, ⟨b1, b2⟩, ⟨c1, c2⟩, d, ⟨e1, e2⟩, f, g⟩ := h
  refine ⟨by omega, a2, b1, by omega, c1, by omega, fun s hs => ?_, e1, by omega, fun p hp => ?_, by omega⟩
  · have := d s hs
    omega
  · have := f p hp
    omega
def sp_law_coder (K : PySem.W.Frag) : Sp := fun vs H Q _ => ∃ (m c l : Addr) (k : Nat) (wide places codes : Int), vs = [.ref m, .int wide, .int places, .int codes] ∧ (1 ≤ wide ∧ wide ≤ 4000) ∧ (1 ≤ places ∧ places ≤ 16) ∧ (2 ≤ codes ∧ codes ≤ 16) ∧
  Dr H m c l (k + 60) ∧ ∀ z (C : Cod) l' H', Kp m l H l' H' → Dr H' m c l' k → Small C wide places codes → Dp K H' z C.dat → Q z H'
set_option maxHeartbeats 4000000 in
theorem ok_law_coder (T : Txt K mg) : FnOk P w K mg base CX0 3 T.f__law_coder T.d__law_coder ["m", "wide", "places", "codes"] (sp_law_coder K) := by
  refine T.F__law_coder.ok sc_law_coder (fun vs H Q E h => ?_) (fun cdv A outer s H vs Q E hr h => ?_)
  · obtain ⟨m, c, l, k, wide, places, codes, rfl, _⟩ := h
    rfl
  · obtain ⟨m, c, l, k, wide, places, codes, rfl, ⟨w1, w2⟩, ⟨p1, p2⟩, ⟨c1, c2⟩, D0, q⟩ := h
    refine ⟨_,
(pss_cons (ps_par (i := 4) (j := 5) (by rfl) sc_law_coder.nd rfl rfl (by decide) rfl rfl (pa_cons (pe_op op_sub pe_int (pe_call (ok_law_next T) (hr.mono (by decide)) (by rfl) T.g__law_next T.F__law_next.kp T.b__law_next .nil pass0 (pa_cons (pv 0) (pa_cons (pe_op op_add (pv 1) pe_int) pa_nil)))) (pa_cons (pe_call (ok_law_next T) (hr.mono (by decide)) (by rfl) T.g__law_next T.F__law_next.kp T.b__law_next .nil pass0 (pa_cons (pv 0) (pa_cons (pe_op op_add (pv 1) pe_int) pa_nil))) pa_nil)) (by rfl))
      (pss_cons (ps_setLc (i := 7) (own := [("k", 6)]) rfl sc_law_coder.nd rfl rfl (sw_true rfl rfl rfl (by decide +kernel)) (pi_range1 (by rfl) T.z_range (pa_cons (pe_op op_add pe_int (pe_call (ok_law_next T) (hr.mono (by decide)) (by rfl) T.g__law_next T.F__law_next.kp T.b__law_next .nil pass0 (pa_cons (pv 0) (pa_cons (pv 2) pa_nil)))) pa_nil)) (blkOk_by (own := [("k", 6)]) (N := ["m", "wide", "places", "codes", "low", "high", "k", "steps", "moves", "fade"]) (sc := defScope s_law_coder) (by decide +kernel)) (fun _ _ _ _ _ => (pg_name (i := 6) sc_law_coder.nd rfl (Or.inl rfl))) (fun _ _ _ _ _ => pts_nil) (fun _ _ _ _ _ => (pe_op op_add pe_int (pe_call (ok_law_next T) (hr.mono (by decide)) (by rfl) T.g__law_next T.F__law_next.kp T.b__law_next .nil pass0 (pa_cons (pv 0) (pa_cons (pe_op op_add (pe_op op_mul pe_int (pv 1)) pe_int) pa_nil))))))
      (pss_cons (ps_set (i := 8) sc_law_coder.nd rfl (Or.inl rfl) (pe_lst pa_nil))
      (pss_cons (ps_for PassesOwn.never rfl (pi_range1 (by rfl) T.z_range (pa_cons (pe_op op_add pe_int (pe_call (ok_law_next T) (hr.mono (by decide)) (by rfl) T.g__law_next T.F__law_next.kp T.b__law_next .nil pass0 (pa_cons (pv 0) (pa_cons (pe_op op_sub (pv 3) pe_int) pa_nil)))) pa_nil)) (pg_name (i := 6) sc_law_coder.nd rfl (Or.inl rfl)) (pss_one (ps_expr (pe_bm PySem.F.plainAttrs_list PySem.F.slot_list_append PySem.F.type_list_append mt_append (pv 8) (pa_cons (pe_tup (pa_cons (pe_op op_sub (pe_call (ok_law_next T) (hr.mono (by decide)) (by rfl) T.g__law_next T.F__law_next.kp T.b__law_next .nil pass0 (pa_cons (pv 0) (pa_cons pe_int pa_nil))) pe_int) (pa_cons (pe_op op_sub (pe_call (ok_law_next T) (hr.mono (by decide)) (by rfl) T.g__law_next T.F__law_next.kp T.b__law_next .nil pass0 (pa_cons (pv 0) (pa_cons pe_int pa_nil))) pe_int) pa_nil))) pa_nil)))))
      (pss_cons (ps_set (i := 9) sc_law_coder.nd rfl (Or.inl rfl) (pe_ix ix_list (pe_lst (pa_cons pe_int (pa_cons pe_int (pa_cons pe_int (pa_cons (pe_op op_add pe_int (pe_call (ok_law_next T) (hr.mono (by decide)) (by rfl) T.g__law_next T.F__law_next.kp T.b__law_next .nil pass0 (pa_cons (pv 0) (pa_cons pe_int pa_nil)))) pa_nil))))) (pe_call (ok_law_next T) (hr.mono (by decide)) (by rfl) T.g__law_next T.F__law_next.kp T.b__law_next .nil pass0 (pa_cons (pv 0) (pa_cons pe_int pa_nil))) (fun _ _ => rfl)))
      (pss_one (ps_ret (pe_tup (pa_cons (pv 4) (pa_cons (pv 5) (pa_cons (pe_callTy call_tuple_of (by rfl) T.z_tuple (by decide +kernel) (pa_cons (pv 7) pa_nil)) (pa_cons (pe_callTy call_tuple_of (by rfl) T.z_tuple (by decide +kernel) (pa_cons (pv 8) pa_nil)) (pa_cons (pv 9) pa_nil)))))))))))))
, ?_⟩
    -- low, high
    refine ⟨_, rfl, _, rfl, _, _, rfl, rfl, m, c, l, k + 59, wide + 1, rfl, by omega, by omega, D0, fun a l1 H1 a0 a1 kp1 D1 => ⟨0, a, rfl, rfl, ?_⟩⟩
    refine ⟨_, rfl, _, rfl, _, _, rfl, rfl, m, c, l1, k + 58, wide + 1, rfl, by omega, by omega, D1, fun b l2 H2 b0 b1 kp2 D2 => ⟨_, _, rfl, ?_⟩⟩
    have kp12 := kp1.trans kp2
    -- steps
    refine ⟨_, rfl, _, rfl, m, c, l2, k + 57, places, rfl, by omega, by omega, D2, fun np l3 H3 n0 n1 kp3 D3 => ⟨1, np, rfl, rfl, _, rfl, by omega, by omega, fun S hS => ?_⟩⟩
    have kp13 := kp12.trans kp3
    obtain ⟨cs3, ls3, z3, e31, e32, e33, _⟩ := D3.ex
    refine lc_range (lo := 0) (n := (1 + np).toNat) (fun i H' => ∃ (l' : Addr) (ss : List Int), H' S = some (.lst (ss.map V.int)) ∧ ss.length = i ∧ (∀ s ∈ ss, 1 ≤ s ∧ s ≤ 2 * wide + 2) ∧ Kp m l3 H3 l' H' ∧ Dr H' m c l' (k + 57 - i) ∧ S ≠ m ∧ S ≠ c ∧ S ≠ l')
      ⟨l3, [], upd_same, rfl, by simp, Kp.new hS, D3.new hS, (ne_of_none e31 hS).symm, (ne_of_none e32 hS).symm, (ne_of_none e33 hS).symm⟩ ?_ ?_
    · rintro i H' hi ⟨l', ss, hL, hlen, hss, kp, D, nm, nc, nl⟩
      have hi' : i < 17 := by omega
      refine ⟨rfl, yes_turn ?_⟩
      refine ⟨_, rfl, _, rfl, 2, wide, rfl, rfl, .inl ⟨by decide, by decide⟩, _, _, rfl, rfl, m, c, l', k + 57 - (i + 1), 2 * wide + 2, rfl, by omega, by omega, by
          have e : k + 57 - (i + 1) + 1 = k + 57 - i := by omega
          rw [e]; exact D, fun r l'' H'' r0 r1 kp' D' => ⟨1, r, rfl, rfl, ?_⟩⟩
      obtain ⟨hL', nl'⟩ := kp'.own hL nm nl
      refine ⟨_, hL', ?_, l'', ss ++ [1 + r], ?_, by simp [hlen], ?_, (kp.trans kp').set hS, D'.set nm nc nl', nm, nc, nl'⟩
      · rw [List.length_map]
        exact small1000 (by omega)
      · rw [upd_same, List.map_append]
        rfl
      · intro s hs
        rcases List.mem_append.mp hs with h | h
        · exact hss s h
        · rw [List.mem_singleton.mp h]
          omega
    · rintro H4 ⟨l4, ss, hL, hlen, hss, kp4, D4, nSm, nSc, nSl⟩
      have kp14 := kp13.trans kp4
      have hSm := nSm
      have len16 : (1 + np).toNat ≤ 16 := by omega
      have D4 : Dr H4 m c l4 (k + 41) := D4.less (by omega)
      refine ⟨Nat.zero_le _, fun M hM => ?_⟩
      obtain ⟨cs4, ls4, z4, e41, e42, e43, _⟩ := D4.ex
      have nMm : M ≠ m := (ne_of_none e41 hM).symm
      have nMc : M ≠ c := (ne_of_none e42 hM).symm
      have nMl : M ≠ l4 := (ne_of_none e43 hM).symm
      have nMS : S ≠ M := ne_of_none hL hM
      have hL5 := same_new (o := .lst []) hM _ _ hL
      have kp5 : Kp m l H l4 (upd H4 M (.lst [])) := kp14.trans (Kp.new hM)
      have D5 : Dr (upd H4 M (.lst [])) m c l4 (k + 41) := D4.new hM
      have hM5 : (upd H4 M (.lst [])) M = some (.lst []) := upd_same
      have hM0 : H M = none := kp14.dm M hM
      generalize upd H4 M (.lst []) = H5 at hL5 kp5 D5 hM5
      refine ⟨_, rfl, _, rfl, _, _, rfl, rfl, m, c, l4, k + 40, codes - 1, rfl, by omega, by omega, D5, fun nm l6 H6 n60 n61 kp6 D6 => ⟨2, nm, rfl, rfl, _, rfl, by omega, by omega, ?_⟩⟩
      obtain ⟨hL6, nSl6⟩ := kp6.own hL5 nSm nSl
      obtain ⟨hM6, nMl6⟩ := kp6.own hM5 nMm nMl
      refine for_range (lo := 0) (n := (2 + nm).toNat) (fun i σ H' => ∃ (y : Option V) (l' : Addr) (ms : List V) (mvs : List (Int × Int)),
          σ = [some (.ref m), some (.int wide), some (.int places), some (.int codes), some (.int (0 - a)), some (.int b), y, some (.ref S), some (.ref M), none] ∧
          H' M = some (.lst ms) ∧ DpAll K H' ms (mvs.map pairI) ∧ mvs.length = i ∧ (∀ p ∈ mvs, (-16 ≤ p.1 ∧ p.1 ≤ 16) ∧ (-2 ≤ p.2 ∧ p.2 ≤ 2)) ∧
          H' S = some (.lst (ss.map V.int)) ∧ Kp m l H l' H' ∧ Dr H' m c l' (k + 40 - 2 * i) ∧ M ≠ l' ∧ S ≠ l')
        ⟨none, l6, [], [], rfl, hM6, .nil, rfl, by simp, hL6, kp5.trans kp6, D6, nMl6, nSl6⟩ ?_ ?_
      · rintro i σ H7 hi ⟨y, l7, ms, mvs, rfl, hM7, hD7, hlen7, hb7, hS7, kp7, D7, nMl7, nSl7⟩
        have hi' : i < 16 := by omega
        have e1 : k + 40 - 2 * i = k + 40 - 2 * (i + 1) + 2 := by omega
        rw [e1] at D7
        refine ⟨.ref M, rfl, .inl ⟨rfl, _, SqL.of hM7⟩, ?_⟩
        refine ⟨_, rfl, m, c, l7, k + 40 - 2 * (i + 1) + 1, 33, rfl, by decide, by decide, D7, fun r1 l8 H8 r10 r11 kp8 D8 => ⟨r1, 16, rfl, rfl, ?_⟩⟩
        obtain ⟨hM8, nMl8⟩ := kp8.own hM7 nMm nMl7
        obtain ⟨hS8, nSl8⟩ := kp8.own hS7 nSm nSl7
        refine ⟨_, rfl, m, c, l8, k + 40 - 2 * (i + 1), 5, rfl, by decide, by decide, D8, fun r2 l9 H9 r20 r21 kp9 D9 => ⟨r2, 2, rfl, rfl, by show 2 ≤ sizeLine; decide, fun p hp => ?_⟩⟩
        obtain ⟨hM9, nMl9⟩ := kp9.own hM8 nMm nMl8
        obtain ⟨hS9, nSl9⟩ := kp9.own hS8 nSm nSl8
        have hD9 : DpAll K H9 ms (mvs.map pairI) := dpAll_keep (keep_draw kp9 D8) _ _ (noLs_pairs _) (dpAll_keep (keep_draw kp8 D7) _ _ (noLs_pairs _) hD7)
        have sp := same_new (o := .tup [.int (r1 - 16), .int (r2 - 2)]) hp
        have hM10 := sp _ _ hM9
        have hS10 := sp _ _ hS9
        refine ⟨M, ms, _, rfl, rfl, hM10, ?_, ?_⟩
        · rw [dpAll_len hD7, List.length_map, hlen7]
          exact small1000 (by omega)
        · refine ⟨_, l9, ms ++ [.ref p], mvs ++ [(r1 - 16, r2 - 2)], rfl, upd_same, ?_, by simp [hlen7], ?_, (upd_ne nMS).trans hS10, (((kp7.trans kp8).trans kp9).trans (Kp.new hp)).set hM0, (D9.new hp).set nMm nMc nMl9, nMl9, nSl9⟩
          · rw [List.map_append]
            exact dpAll_app (pairs_set hM10 (dpAll_same sp _ _ hD9)) (.cons (dp_mkpair (s := (r1 - 16, r2 - 2)) (sqt_set hM10 upd_tup)) .nil)
          · intro x hx
            rcases List.mem_append.mp hx with h | h
            · exact hb7 x h
            · rw [List.mem_singleton.mp h]
              exact ⟨⟨by show -16 ≤ r1 - 16; omega, by show r1 - 16 ≤ 16; omega⟩, by show -2 ≤ r2 - 2; omega, by show r2 - 2 ≤ 2; omega⟩
      · rintro σ H7 ⟨y, l7, ms, mvs, rfl, hM7, hD7, hlen7, hb7, hS7, kp7, D7, nMl7, nSl7⟩
        have D7 : Dr H7 m c l7 (k + 2) := D7.less (by omega)
        -- fade
        refine ⟨_, rfl, m, c, l7, k + 1, 4, rfl, by decide, by decide, D7, fun f l8 H8 f0 f1 kp8 D8 => ⟨2, f, rfl, rfl, by show 4 ≤ sizeLine; decide, fun L hL8 => ?_⟩⟩
        obtain ⟨hM8, nMl8⟩ := kp8.own hM7 nMm nMl7
        obtain ⟨hS8, nSl8⟩ := kp8.own hS7 nSm nSl7
        have hD8 : DpAll K H8 ms (mvs.map pairI) := dpAll_keep (keep_draw kp8 D7) _ _ (noLs_pairs _) hD7
        obtain ⟨cs8, ls8, z8, e81, e82, e83, _⟩ := D8.ex
        have nLm : L ≠ m := (ne_of_none e81 hL8).symm
        have nLl : L ≠ l8 := (ne_of_none e83 hL8).symm
        have sL := same_new (o := .lst [V.int 0, V.int 0, V.int 2, V.int (2 + f)]) hL8
        have D9 : Dr (upd H8 L (.lst [V.int 0, V.int 0, V.int 2, V.int (2 + f)])) m c l8 (k + 1) := D8.new hL8
        have hL9 : (upd H8 L (.lst [V.int 0, V.int 0, V.int 2, V.int (2 + f)])) L = some (.lst [V.int 0, V.int 0, V.int 2, V.int (2 + f)]) := upd_same
        have kp9 : Kp m l H l8 (upd H8 L (.lst [V.int 0, V.int 0, V.int 2, V.int (2 + f)])) := (kp7.trans kp8).trans (Kp.new hL8)
        have hM9 := sL _ _ hM8
        have hS9 := sL _ _ hS8
        have hD9 := dpAll_same sL _ _ hD8
        generalize upd H8 L (.lst [V.int 0, V.int 0, V.int 2, V.int (2 + f)]) = H9 at sL D9 hL9 kp9 hM9 hS9 hD9
        refine ⟨_, rfl, m, c, l8, k, 4, rfl, by decide, by decide, D9, fun g l10 H10 g0 g1 kp10 D10 => ?_⟩
        obtain ⟨hL10, _⟩ := kp10.own hL9 nLm nLl
        obtain ⟨hM10, nMl10⟩ := kp10.own hM9 nMm nMl8
        obtain ⟨hS10, nSl10⟩ := kp10.own hS9 nSm nSl8
        have hD10 : DpAll K H10 ms (mvs.map pairI) := dpAll_keep (keep_draw kp10 D9) _ _ (noLs_pairs _) hD9
        obtain ⟨fd, hfd, hat⟩ : ∃ fd : Int, (fd = 0 ∨ (2 ≤ fd ∧ fd ≤ 5)) ∧ atI [V.int 0, V.int 0, V.int 2, V.int (2 + f)] g = some (.int fd) := by
          have hg : g = 0 ∨ g = 1 ∨ g = 2 ∨ g = 3 := by omega
          rcases hg with e | e | e | e <;> subst e
          · exact ⟨0, .inl rfl, atI_nat (j := 0) rfl⟩
          · exact ⟨0, .inl rfl, atI_nat (j := 1) rfl⟩
          · exact ⟨2, .inr ⟨by omega, by omega⟩, atI_nat (j := 2) rfl⟩
          · exact ⟨2 + f, .inr ⟨by omega, by omega⟩, atI_nat (j := 3) rfl⟩
        refine ⟨L, _, g, .int fd, rfl, rfl, SqL.of hL10, hat, ?_⟩
        -- the tuple
        refine ⟨_, rfl, _, rfl, .ref S, rfl, S, _, rfl, .inl ⟨SqL.of hS10, fun ts hts => ?_⟩⟩
        have s11 := same_new (o := .tup (ss.map V.int)) hts
        have hM11 := s11 _ _ hM10
        have t11 : (upd H10 ts (.tup (ss.map V.int))) ts = some (.tup (ss.map V.int)) := upd_same
        have hD11 := dpAll_same s11 _ _ hD10
        have kp11 : Kp m l H l10 (upd H10 ts (.tup (ss.map V.int))) := (kp9.trans kp10).trans (Kp.new hts)
        have D11 : Dr (upd H10 ts (.tup (ss.map V.int))) m c l10 k := D10.new hts
        generalize upd H10 ts (.tup (ss.map V.int)) = H11 at hM11 t11 hD11 kp11 D11
        refine ⟨.ref M, rfl, M, _, rfl, .inl ⟨SqL.of hM11, fun tm htm => ?_⟩⟩
        have s12 := same_new (o := .tup ms) htm
        have t12 := s12 _ _ t11
        have m12 : (upd H11 tm (.tup ms)) tm = some (.tup ms) := upd_same
        have hD12 := dpAll_same s12 _ _ hD11
        have kp12' : Kp m l H l10 (upd H11 tm (.tup ms)) := kp11.trans (Kp.new htm)
        have D12 : Dr (upd H11 tm (.tup ms)) m c l10 k := D11.new htm
        generalize upd H11 tm (.tup ms) = H12 at t12 m12 hD12 kp12' D12
        refine ⟨_, rfl, by show 5 ≤ sizeLine; decide, fun p hp => ?_⟩
        have s13 := same_new (o := .tup [V.int (0 - a), V.int b, V.ref ts, V.ref tm, V.int fd]) hp
        refine q _ ⟨0 - a, b, ss, mvs, fd⟩ l10 _ (kp12'.trans (Kp.new hp)) (D12.new hp) ⟨⟨by show -wide ≤ 0 - a; omega, by show 0 - a ≤ 0; omega⟩, ⟨b0, by show b ≤ wide; omega⟩, ⟨by show 1 ≤ ss.length; omega, by show (ss.length : Int) ≤ places; omega⟩, hss, ⟨by show 2 ≤ mvs.length; omega, by show (mvs.length : Int) ≤ codes; omega⟩, hb7, hfd⟩ ?_
        refine .tup upd_tup (.cons (.int _) (.cons (.int _) (.cons ?_ (.cons ?_ (.cons (.int _) .nil)))))
        · exact dp_tints (.inl (.inl (s13 _ _ t12)))
        · exact .tup (.inl (.inl (s13 _ _ m12))) (dpAll_same s13 _ _ hD12)
end
end My

namespace My
open PySem PySem.Spec PyProof.Rows L2
/-! ### calls with keywords of defs that raise, within a try -/
def tCallNS (n m : Nat) (sp : Sp) (gV : List V → List V → List V) (E : L2.St → XK) (t tk : TA) : TE := fun σ H Q => t σ H fun vs H1 => tk σ H1 fun zs H2 =>
  vs.length = n ∧ zs.length = m ∧ sp (gV vs zs) H2 Q (E σ)
section
variable {X : Cx} {CX : CXT} {k n : Nat} {f : Addr} {fd : FuncData} {ps ks : List Str} {sp : Sp} {E : L2.St → XK} {x : Str} {p pos : Pos} {e : Expr} {es : List Expr} {kws : List Keyword} {t tk : TA} {g : List Value → List Value → List Value} {gV : List V → List V → List V}
theorem pe_callNS (F : FnOk X.prog X.w X.K X.mg X.base CX k f fd ps sp) (hr : Room k X.A) (hg : Gl X x) (hm : X.mg x = some (.ref f)) (hk : PySem.W.keepIn X.K (.ref f) = true) (hb : KBn X.K fd ps n ks g gV)
    (hx : ∀ σ, PassesAt CX X σ (E σ)) (ha : PA X (e :: es) t) (hkw : PK X kws tk) (hall : (backToKw pos (keywordEach kws X.env)).all (·.1.isSome) = true := by rfl)
    (hks : (backToKw pos (keywordEach kws X.env)).filterMap (·.1) = ks := by rfl) (hdb : (x == ("__debug__" : Str)) = false := by decide)
    (he : starEach (e :: es) X.env = (false, eval e X.env) :: starEach es X.env := by rfl)
    (hpl : ((backTo pos (starEach (e :: es) X.env)).any (·.1) || (backToKw pos (keywordEach kws X.env)).any (·.1.isNone)) = false := by rfl) :
    PE X (.Call (.Name x p) (e :: es) kws pos) (tCallNS n ks.length sp gV E t tk) := by
  refine ⟨fun pins s σ H Q I h => wpAny_Call_Name_kw (ld_glob I hg hm ?_ hdb)⟩
  refine PySem.W.callWith_KW (h₀ := X.base) I.ok.mod.kin hk hall
    (thn (ha.run pos pins s σ H _ I h) fun us s1 ⟨vs, H1, I1, r, q⟩ => ?_) hpl he
  refine thn (hkw.run pos pins s1 σ H1 _ I1 q) fun ws s2 ⟨zs, H2, I2, rz, l1, l2, q2⟩ => ⟨I2.kIn, ?_⟩
  rw [hks]
  have rel := hb.rel r rz
  have binds := hb.to s2 us ws I2.kIn (r.length.symm.trans l1) (rz.length.symm.trans l2)
  refine wpAny_call (codeAny_mono (F.run X.A X.stack s2 H2 ⟨us, ks.zip ws⟩ (g us ws) (gV vs zs) Q (E σ) hr I2.env0 binds rel q2) ?_)
  intro res s' hq
  match res, hq with
  | .error e, hq => exact hx σ pins H2 s2 e s' I2 hq
  | .ok (.ret u), hq => exact I2.after hq
end
/-- a thing handed in as a row: a tuple of data, or anything but a tuple -/
def Th (K : PySem.W.Frag) (H : Hp) (x : V) : Option (List PyData) → Prop
  | none => ∃ T : String, TyX K H x (.type T) ∧ PySem.W.kitOne K (.type T) (.type "tuple") = some false
  | some ds => Dp K H x (.tuple ds)
theorem Th.same {K : PySem.W.Frag} {H H' : Hp} {x : V} {r : Option (List PyData)} (s : Same H H') (h : Th K H x r) : Th K H' x r := by
  cases r with
  | some ds => exact dp_same s _ _ h
  | none =>
    obtain ⟨T, h1, h2⟩ := h
    refine ⟨T, ?_, h2⟩
    cases h1 with
    | base h =>
      cases h with
      | non => exact .base .non
      | bl b => exact .base (.bl b)
      | int i => exact .base (.int i)
      | str x => exact .base (.str x)
      | flt x => exact .base (.flt x)
      | lst e => exact .base (.lst (s _ _ e))
      | frz e => exact .base (.frz (s _ _ e))
      | tup e => exact .base (.tup (s _ _ e))
      | dK e => exact .base (.dK (s _ _ e))
      | dT e => exact .base (.dT (s _ _ e))
    | byt b => exact .byt b
    | set e => exact .set (s _ _ e)
    | kList e c => exact .kList e c
    | kTuple e c => exact .kTuple e c
    | kDict e c => exact .kDict e c
    | fTuple e => exact .fTuple (s _ _ e)
    | fDict e => exact .fDict (s _ _ e)
def codeD (C : Cod) (d : PyData) : Bool := btw d 0 ((C.moves.length : Int) - 1)
/-- the place of the first thing that cannot stand in a row -/
def rowBad (C : Cod) : Nat → List PyData → Option Nat
  | _, [] => none
  | i, d :: r => if (decide (i = 2000) || !codeD C d) = true then some i else rowBad C (i + 1) r
theorem rowBad_step {C : Cod} {ds : List PyData} {i : Nat} {d : PyData} (h : ds[i]? = some d) : rowBad C i (ds.drop i) = if (decide (i = 2000) || !codeD C d) = true then some i else rowBad C (i + 1) (ds.drop (i + 1)) := by
  have hi := (List.getElem?_eq_some_iff.mp h).1
  have e : ds.drop i = d :: ds.drop (i + 1) := by
    rw [List.drop_eq_getElem_cons hi]
    rw [List.getElem?_eq_getElem hi] at h
    rw [Option.some.inj h]
  rw [e]
  rfl
def rowRes (C : Cod) : Option (List PyData) → Option (Int × Int)
  | none => some (0, 0)
  | some ds => (rowBad C 0 ds).map fun (i : Nat) => ((1 : Int), (i : Int) + 1)
theorem rowRes_bad {C : Cod} {ds : List PyData} {i : Nat} (h : rowBad C 0 ds = some i) : rowRes C (some ds) = some (1, (i : Int) + 1) := by
  show (rowBad C 0 ds).map _ = _
  rw [h]
  rfl
theorem rowRes_ok {C : Cod} {ds : List PyData} (h : rowBad C 0 ds = none) : rowRes C (some ds) = none := by
  show (rowBad C 0 ds).map _ = _
  rw [h]
  rfl
section
variable {P : Program} {w : World} {K : PySem.W.Frag} {mg : Str → Option Value} {base : Heap}
/-- two fields stored one behind the other -/
def sp_init2 (C : Addr) (f1 f2 : Str) : Sp := fun vs H Q _ => ∃ (a : Addr) (x y : V), vs = [.ref a, x, y] ∧ H a = some (exo a C none) ∧
  ∀ dx, H dx = none → dx ≠ a → Q .non (upd (upd (upd H dx (exd dx [(f1, x)])) a (exo a C (some dx))) dx (exd dx [(f2, y), (f1, x)]))
theorem oki_BadRow (T : Txt K mg) : FnOk P w K mg base CX0 2 T.fi_BadRow T.di_BadRow ["self", "row", "word"] (sp_init2 T.C_BadRow "row" "word") := by
  refine T.Fi_BadRow.ok sci_BadRow (fun vs H Q E h => ?_) (fun cdv A outer s H vs Q E hr h => ?_)
  · obtain ⟨a, x, y, rfl, _⟩ := h
    rfl
  · obtain ⟨a, x, y, rfl, ha, q⟩ := h
    refine ⟨_, pss_cons (ps_ost (pv 0) (pv 1)) (pss_one (ps_ost (pv 0) (pv 2))), ?_⟩
    refine ⟨_, rfl, _, rfl, a, T.C_BadRow, rfl, T.o_BadRow, T.n_BadRow_row, .inl ⟨ha, fun dx hdx ne => ?_⟩⟩
    refine ⟨_, rfl, _, rfl, a, T.C_BadRow, rfl, T.o_BadRow, T.n_BadRow_word, .inr ⟨dx, _, upd_same, (upd_ne ne).trans upd_same, by show 1 ≤ 900; decide, q dx hdx ne⟩⟩
theorem made2 {H : Hp} {a d : Addr} {o1 o2 o3 o4 o5 : HO} (h : H a = none) (n : d ≠ a) : upd (del (upd (upd (upd (upd H a o1) d o2) a o3) d o4) a) d o5 = upd H d o5 := by
  funext b
  show (if b = d then some o5 else if b = a then none else if b = d then some o4 else if b = a then some o3 else if b = d then some o2 else if b = a then some o1 else H b) = if b = d then some o5 else H b
  by_cases e : b = d
  · rw [if_pos e, if_pos e]
  · rw [if_neg e, if_neg e]
    by_cases e2 : b = a
    · rw [if_pos e2, e2, h, if_neg (fun z => e (e2.trans z))]
    · rw [if_neg e2, if_neg e, if_neg e2, if_neg e, if_neg e2]
/-- a refusal with BadRow(i, j): a new dict, all else stands -/
def RowE (C : Addr) (H : Hp) (E : XK) (i j : Int) : Prop := ∀ d H', Same H H' → H' d = some (.xd [("word", V.int j), ("row", V.int i)]) → E (.ref C) (some d) H'
theorem RowE.same {C : Addr} {H H' : Hp} {E : XK} {i j : Int} (s : Same H H') (h : RowE C H E i j) : RowE C H' E i j := fun d H'' s' hd => h d H'' (s.trans s') hd
theorem rowE_mk {C : Addr} {H : Hp} {E : XK} {i j : Int} (h : RowE C H E i j) {a d : Addr} {o1 o2 o3 o4 : HO} (ha : H a = none) (hd : upd H a o1 d = none) (n : d ≠ a) :
    E (.ref C) (some d) (upd (del (upd (upd (upd (upd H a o1) d o2) a o3) d o4) a) d (.xd [("word", V.int j), ("row", V.int i)])) := by
  rw [made2 ha n]
  have h0 : H d = none := (upd_ne n).symm.trans hd
  exact h d _ (same_new h0) upd_same
def sp_need_row (K : PySem.W.Frag) (BR : Addr) : Sp := fun vs H Q E => ∃ (c x : V) (C : Cod) (r : Option (List PyData)), vs = [c, x] ∧ Dp K H c C.dat ∧ Th K H x r ∧
  (rowRes C r = none → ∀ H', Same H H' → Q .non H') ∧ (∀ i j, rowRes C r = some (i, j) → RowE BR H E i j)
theorem ok_need_row (T : Txt K mg) : FnOk P w K mg base (L2.CX P w) 4 T.f_need_row T.d_need_row ["coder", "thing"] (sp_need_row K T.C_BadRow) := by
  refine T.F_need_row.okX sc_need_row (fun vs H Q E h => ?_) (fun cdv A outer s H vs Q E hr h => ?_)
  · obtain ⟨c, x, C, r, rfl, _⟩ := h
    rfl
  · obtain ⟨c, x, C, r, rfl, hc, hx, q1, q2⟩ := h
    refine ⟨_,
(pss_cons (ps_if (pt_not (pt_val (pe_callB (call_isi) (by rfl) T.z_isinstance (by decide +kernel) (pa_cons (pv 1) (pa_cons (pe_bltn (v := .ty "tuple") (by rfl) T.z_tuple (by decide +kernel) rfl) pa_nil))))) (pss_one (ps_raise rfl (takes_of rfl rfl rfl rfl) (pmk_oex T.o_BadRow T.i_BadRow T.t_BadRow (oki_BadRow T) (hr.mono (by decide)) T.bi_BadRow .nil pass0 (by rfl) T.g_BadRow (pa_cons pe_int (pa_cons pe_int pa_nil))))) pss_nil)
      (pss_one (ps_for (passes_of rfl) rfl (My.pi_enumT (by rfl) T.z_enumerate (pa_cons (pv 1) pa_nil)) (pg_tup (by rfl) (pgs_cons (pg_name (i := 2) sc_need_row.nd rfl (Or.inl rfl)) (pgs_cons (pg_name (i := 3) sc_need_row.nd rfl (Or.inl rfl)) pgs_nil))) (pss_one (ps_if (PW.pt (pw_or (pt_cmpR op_eq (pv 2) (pe_glob (v := .int 2000) (by rfl) T.g_MOST_CODES ⟨_, rfl⟩) (nomark _)) (pw_or1 (pt_not (pt_val (pe_call (ok_is_code T) (hr.mono (by decide)) (by rfl) T.g_is_code T.F_is_code.kp T.b_is_code .nil pass0 (pa_cons (pv 0) (pa_cons (pv 3) pa_nil)))))))) (pss_one (ps_raise rfl (takes_of rfl rfl rfl rfl) (pmk_oex T.o_BadRow T.i_BadRow T.t_BadRow (oki_BadRow T) (hr.mono (by decide)) T.bi_BadRow .nil pass0 (by rfl) T.g_BadRow (pa_cons pe_int (pa_cons (pe_op op_add (pv 2) pe_int) pa_nil))))) pss_nil)))))
, ?_⟩
    cases r with
    | none =>
      obtain ⟨TT, t1, t2⟩ := hx
      refine ⟨x, rfl, x, .ty "tuple", _, _, _, rfl, .ty _, t1, t2, _, rfl, ?_⟩
      refine iteT ?_
      refine ⟨by decide, fun a ha => ⟨a, .int 0, .int 0, rfl, upd_same, fun d hd n => ⟨rfl, d, _, (upd_ne n.symm).trans upd_same, upd_same, (upd_ne n).symm.trans hd, rowE_mk (q2 0 0 rfl) ha hd n⟩⟩⟩
    | some ds =>
      have hd : Dp K H x (.tuple ds) := hx
      refine ⟨x, rfl, x, .ty "tuple", _, _, _, rfl, .ty _, tyx hd, kitT _, _, rfl, ?_⟩
      refine iteF ?_
      obtain ⟨a, xs, rfl, ha, hds⟩ := dp_tup hd
      have hlx := dpAll_len hds
      refine ⟨.ref a, rfl, a, xs, rfl, ha, ?_⟩
      refine for_enumT (K := K) (a := a) (xs := xs) (fun i σ H' => ∃ y1 y2, σ = [some c, some (.ref a), y1, y2] ∧ Same H H' ∧ rowBad C 0 ds = rowBad C i (ds.drop i)) ⟨none, none, rfl, Same.refl H, rfl⟩ ?_ ?_ ?_
      · rintro i σ H' _ ⟨_, _, _, s2, _⟩
        exact same_tup s2 ha
      · rintro i v σ H' p hi ⟨y1, y2, rfl, s2, hbad⟩ hp
        obtain ⟨dv, hdv, hv⟩ := dpAll_get hds hi
        rw [rowBad_step hdv] at hbad
        have s3 := s2.trans (same_new (o := .tup [.int (i : Nat), v]) hp)
        refine ⟨p, _, rfl, upd_tup, rfl, _, _, rfl, _, _, rfl, rfl, ?_⟩
        generalize upd H' p (.tup [.int (i : Nat), v]) = H2 at s3
        have raise : ∀ H3, Same H H3 → rowBad C 0 ds = some i → (([V.int 1, V.int ((i : Int) + 1)] : List V).length ≤ 1000 ∧ ∀ a', H3 a' = none →
            sp_init2 T.C_BadRow "row" "word" (.ref a' :: ([V.int 1, V.int ((i : Int) + 1)] ++ [])) (upd H3 a' (exo a' T.C_BadRow none)) (fun v H2 => v = .non ∧ ∃ (d : Addr) (fs : List (Str × V)), H2 a' = some (exo a' T.C_BadRow (some d)) ∧ H2 d = some (exd d fs) ∧ H3 d = none ∧
              E (.ref T.C_BadRow) (some d) (upd (del H2 a') d (.xd fs))) (fun _ _ _ => False)) := fun H3 s3 hb =>
          ⟨by show 2 ≤ 1000; decide, fun a' ha' => ⟨a', .int 1, .int ((i : Int) + 1), rfl, upd_same, fun d hd n => ⟨rfl, d, _, (upd_ne n.symm).trans upd_same, upd_same, (upd_ne n).symm.trans hd, rowE_mk ((q2 1 ((i : Int) + 1) (rowRes_bad hb)).same s3) ha' hd n⟩⟩⟩
        refine ⟨_, rfl, rfl, _, rfl, ?_⟩
        show if decide (V.int (i : Int) = V.int 2000) = true then _ else _
        by_cases e : i = 2000
        · have e1 : decide (V.int (i : Int) = V.int 2000) = true := by rw [e]; rfl
          rw [e1]
          refine iteT (iteT ?_)
          refine ⟨_, rfl, _, _, rfl, rfl, raise H2 s3 ?_⟩
          rw [hbad, decide_eq_true e]
          rfl
        · have e1 : decide (V.int (i : Int) = V.int 2000) = false := decide_eq_false fun z => by
            have := V.int.inj z
            omega
          rw [e1]
          refine iteF ?_
          refine ⟨_, rfl, _, rfl, c, v, C, dv, rfl, dp_same s3 _ _ hc, dp_same s3 _ _ hv, fun H3 s4 => ⟨_, rfl, ?_⟩⟩
          rw [decide_eq_false e, Bool.false_or] at hbad
          cases hg : codeD C dv with
          | true =>
            rw [hg] at hbad
            have hg' : btw dv 0 ((C.moves.length : Int) - 1) = true := hg
            rw [hg']
            refine iteF ?_
            exact ⟨_, _, rfl, s3.trans s4, hbad⟩
          | false =>
            rw [hg] at hbad
            have hg' : btw dv 0 ((C.moves.length : Int) - 1) = false := hg
            rw [hg']
            refine iteT ?_
            exact ⟨_, rfl, _, _, rfl, rfl, raise H3 (s3.trans s4) hbad⟩
      · rintro σ H' ⟨_, _, rfl, s2, hbad⟩
        refine q1 (rowRes_ok ?_) H' s2
        rw [hbad, hlx, List.drop_length]
        rfl
end
end My

namespace My
open PySem PySem.Spec PyProof.Rows L2
/-! ### the size of what is written out -/
structure Sh (k n : Nat) (d : PyData) : Prop where
  sh : d.showable = true
  nd : d.hasDict = false
  dp : d.depth ≤ k
  le : d.shown.length ≤ n
theorem Sh.mono {k n k' n' : Nat} {d : PyData} (h : Sh k n d) (h1 : k ≤ k') (h2 : n ≤ n') : Sh k' n' d := ⟨h.sh, h.nd, Nat.le_trans h.dp h1, Nat.le_trans h.le h2⟩
theorem sh_int {i : Int} (h : i.natAbs < 2 ^ 64) : Sh 0 1921 (.int i) := by
  have hl : i.natAbs.log2 < 1920 := Nat.lt_trans (PySem.Flt.log2_lt_of (by decide) h) (by decide)
  exact ⟨decide_eq_true hl, rfl, Nat.le_refl _, int_text_len_1921 hl⟩
theorem sh_all {k n : Nat} : ∀ {ds : List PyData}, (∀ d ∈ ds, Sh k n d) → PyData.showableAll ds = true ∧ PyData.hasDictAll ds = false ∧ PyData.depthAll ds ≤ k ∧ piled (PyData.shownAll ds) ≤ ds.length * (n + 2) ∧ (PyData.shownAll ds).length = ds.length
  | [], _ => ⟨rfl, rfl, Nat.zero_le _, Nat.zero_le _, rfl⟩
  | d :: r, h => by
    obtain ⟨h1, h2, h3, h4, h5⟩ := sh_all fun e he => h e (List.mem_cons_of_mem d he)
    have hd := h d List.mem_cons_self
    refine ⟨?_, ?_, ?_, ?_, ?_⟩
    · show (d.showable && PyData.showableAll r) = true
      rw [hd.sh, h1]
      rfl
    · show (d.hasDict || PyData.hasDictAll r) = false
      rw [hd.nd, h2]
      rfl
    · show max d.depth (PyData.depthAll r) ≤ k
      exact Nat.max_le.mpr ⟨hd.dp, h3⟩
    · show piled (d.shown :: PyData.shownAll r) ≤ (r.length + 1) * (n + 2)
      rw [piled_cons, Nat.succ_mul]
      have := hd.le
      omega
    · show (PyData.shownAll r).length + 1 = r.length + 1
      rw [h5]
theorem sh_tup {k n : Nat} {ds : List PyData} (h : ∀ d ∈ ds, Sh k n d) : Sh (k + 1) (ds.length * (n + 2) + 3) (.tuple ds) := by
  obtain ⟨h1, h2, h3, h4, h5⟩ := sh_all h
  refine ⟨h1, h2, Nat.succ_le_succ h3, ?_⟩
  show (tupleText (PyData.shownAll ds)).length ≤ _
  unfold tupleText
  rw [strLen_append, strLen_append]
  have e1 : ((("(" : String) : Str)).length = 1 := rfl
  have e3 : (((if (PyData.shownAll ds).length == 1 then ",)" else ")" : String) : Str)).length ≤ 2 := by split <;> decide
  rw [e1]
  by_cases hn : PyData.shownAll ds = []
  · rw [hn] at e3 ⊢
    have : (Str.join ", " []).length = 0 := rfl
    omega
  · have := join_length_add (PyData.shownAll ds) hn
    omega
theorem sh_list2 {k n : Nat} {a b : PyData} (h1 : Sh k n a) (h2 : Sh k n b) : Sh (k + 1) (2 * n + 4) (.list [a, b]) := by
  refine ⟨?_, ?_, ?_, ?_⟩
  · show (a.showable && (b.showable && true)) = true
    rw [h1.sh, h2.sh]
    rfl
  · show (a.hasDict || (b.hasDict || false)) = false
    rw [h1.nd, h2.nd]
    rfl
  · show max a.depth (max b.depth 0) + 1 ≤ k + 1
    have := h1.dp
    have := h2.dp
    omega
  · show (listText [a.shown, b.shown]).length ≤ _
    have e : listText [a.shown, b.shown] = (((((Str.ofString "[" ++ Str.ofString "") ++ a.shown) ++ Str.ofString ", ") ++ b.shown) ++ Str.ofString "]") := rfl
    rw [e, strLen_append, strLen_append, strLen_append, strLen_append, strLen_append]
    have e0 : (Str.ofString "").length = 0 := by decide
    have e1 : (Str.ofString "[").length = 1 := by decide
    have e2 : (Str.ofString "]").length = 1 := by decide
    have e3 : (Str.ofString ", ").length = 2 := by decide
    have := h1.le
    have := h2.le
    omega
theorem sh_ints {ns : List Int} (h : ∀ z ∈ ns, z.natAbs < 2 ^ 64) : Sh 1 (ns.length * 1923 + 3) (.tuple (ns.map .int)) := by
  have := sh_tup (k := 0) (n := 1921) (ds := ns.map .int) fun d hd => by
    obtain ⟨z, hz, rfl⟩ := List.mem_map.mp hd
    exact sh_int (h z hz)
  rw [List.length_map] at this
  exact this
theorem sh_pair {s : Int × Int} (h1 : s.1.natAbs < 2 ^ 64) (h2 : s.2.natAbs < 2 ^ 64) : Sh 1 4000 (pairI s) :=
  (sh_tup (k := 0) (n := 1921) (ds := [.int s.1, .int s.2]) fun d hd => by
    rcases List.mem_cons.mp hd with e | e
    · rw [e]; exact sh_int h1
    · rw [List.mem_singleton.mp e]; exact sh_int h2).mono (Nat.le_refl _) (by simp)
theorem sz_line {n : Nat} (h : n ≤ 1000000) : n ≤ sizeLine := Nat.le_trans h (by decide)
/-! ### slices and sums of tuples -/
theorem cut_take {xs : List V} {n : Nat} (h : n ≤ xs.length) : cutV xs none (some (n : Int)) = xs.take n := by
  unfold cutV
  rw [HT.sIx_none, HT.sIx_nat, Nat.min_eq_left h]
  rfl
theorem cut_drop {xs : List V} {n : Nat} (h : n ≤ xs.length) : cutV xs (some (n : Int)) none = xs.drop n := by
  unfold cutV
  rw [HT.sIx_none, HT.sIx_nat, Nat.min_eq_left h]
  exact List.take_of_length_le (by simp)
theorem dp_row {K : PySem.W.Frag} {H : Hp} {a : Addr} {r : List Nat} (h : SqT K H a (rowV r)) : Dp K H (.ref a) (rowI r) := by
  refine .tup h ?_
  clear h
  induction r with
  | nil => exact .nil
  | cons n r ih => exact .cons (.int n) ih
theorem sl_take {K : PySem.W.Frag} {H : Hp} {a : Addr} {r : List Nat} {n : Nat} {Q : VK} (h : SqT K H a (rowV r)) (hn : n ≤ r.length) (k : ∀ v H', Same H H' → Dp K H' v (rowI (r.take n)) → Q v H') :
    rSlA K (.ref a) none (some (n : Int)) H Q := by
  have hl : (rowV r).length = r.length := List.length_map ..
  refine ⟨a, rowV r, rfl, h, fun ⟨_, e⟩ => ?_, fun _ p hp => ?_⟩
  · rw [HT.sIx_nat, hl, Nat.min_eq_left hn] at e
    refine k _ H (Same.refl H) ?_
    rw [e, List.take_length]
    exact dp_row h
  · refine k _ _ (same_new hp) ?_
    rw [cut_take (by omega), show (rowV r).take n = rowV (r.take n) from List.map_take.symm]
    exact dp_row upd_tup
theorem sl_drop {K : PySem.W.Frag} {H : Hp} {a : Addr} {r : List Nat} {n : Nat} {Q : VK} (h : SqT K H a (rowV r)) (hn : n ≤ r.length) (k : ∀ v H', Same H H' → Dp K H' v (rowI (r.drop n)) → Q v H') :
    rSlA K (.ref a) (some (n : Int)) none H Q := by
  have hl : (rowV r).length = r.length := List.length_map ..
  refine ⟨a, rowV r, rfl, h, fun ⟨e, _⟩ => ?_, fun _ p hp => ?_⟩
  · rw [HT.sIx_nat, hl, Nat.min_eq_left hn] at e
    refine k _ H (Same.refl H) ?_
    rw [e]
    exact dp_row h
  · refine k _ _ (same_new hp) ?_
    rw [cut_drop (by omega), show (rowV r).drop n = rowV (r.drop n) from List.map_drop.symm]
    exact dp_row upd_tup
theorem cat_ints {K : PySem.W.Frag} {H : Hp} {a b : Addr} {ns ms : List Int} {Q : VK} (ha : SqT K H a (ns.map V.int)) (hb : SqT K H b (ms.map V.int)) (hl : ns.length + ms.length ≤ sizeLine)
    (k : ∀ v H', Same H H' → Dp K H' v (.tuple ((ns ++ ms).map .int)) → Q v H') : rCatA K (.ref a) (.ref b) H Q := by
  refine ⟨a, b, _, _, rfl, rfl, ha, hb, by rw [List.length_map, List.length_map]; exact hl, fun e => ?_, fun _ e => ?_, fun _ _ p hp => ?_⟩
  · have e' : ns = [] := List.map_eq_nil_iff.mp e
    refine k _ H (Same.refl H) ?_
    rw [e']
    exact dp_tints hb
  · have e' : ms = [] := List.map_eq_nil_iff.mp e
    refine k _ H (Same.refl H) ?_
    rw [e', List.append_nil]
    exact dp_tints ha
  · refine k _ _ (same_new hp) (dp_tints ?_)
    rw [List.map_append]
    exact upd_tup
theorem dp_last {K : PySem.W.Frag} {H : Hp} {xs : List V} {ps : List (Int × Int)} {s : Int × Int} (h : DpAll K H xs ((ps ++ [s]).map pairI)) : ∃ ys z, xs = ys ++ [z] ∧ Dp K H z (pairI s) := by
  have hl := dpAll_len h
  have hne : xs ≠ [] := by
    intro e
    rw [e] at hl
    simp at hl
  obtain ⟨z, hz, hd⟩ := dpAll_get' h (i := ps.length) (d := pairI s) (by rw [List.map_append, List.getElem?_append_right (by simp)]; simp)
  refine ⟨xs.dropLast, z, ?_, hd⟩
  have hxl : xs.length = ps.length + 1 := by rw [hl]; simp
  have : xs.getLast hne = z := by
    rw [List.getLast_eq_getElem]
    have e : xs[xs.length - 1]? = some z := by rw [hxl]; exact hz
    exact (List.getElem?_eq_some_iff.mp e).2
  rw [← this]
  exact (List.dropLast_concat_getLast hne).symm
/-- repr(..) of data that is small -/
theorem rr {K : PySem.W.Frag} {H : Hp} {v : V} {d : PyData} {k n : Nat} {Q : VK} (h : Dp K H v d) (s : Sh k n d) (hk : k ≤ 60) (hn : n ≤ 1000000) (q : Q (.str d.shown) H) : rRepr K [v] H Q :=
  ⟨v, d, rfl, h, s.sh, s.nd, Nat.le_trans s.dp hk, sz_line (Nat.le_trans s.le hn), q⟩
/-- x != y of equal texts -/
theorem ne_same {x : Str} {A B : Hp → Prop} {H : Hp} (q : B H) : rNe (.str x) (.str x) H fun v H' => ∃ c, v = .bl c ∧ if c = true then A H' else B H' := by
  refine ⟨rfl, false, ?_, iteF q⟩
  show V.bl (!decide (V.str x = V.str x)) = V.bl false
  rw [decide_eq_true rfl]
  rfl
theorem eq_same {x : Str} {H : Hp} {Q : VK} (q : Q (.bl true) H) : rEq (.str x) (.str x) H Q := by
  refine ⟨rfl, ?_⟩
  rw [decide_eq_true rfl]
  exact q
section
variable {P : Program} {w : World} {K : PySem.W.Frag} {mg : Str → Option Value} {base : Heap}
def sp_law_row (K : PySem.W.Frag) : Sp := fun vs H Q _ => ∃ (m c l : Addr) (k : Nat) (x : V) (C : Cod) (many : Nat), vs = [.ref m, x, .int many] ∧ many ≤ 900 ∧ C.Ok ∧ Dp K H x C.dat ∧ Dr H m c l (k + many + 1) ∧
  ∀ z row l' H', Kp m l H l' H' → Dr H' m c l' k → C.Row row → row.length ≤ many → Dp K H' z (rowI row) → Q z H'
theorem ok_law_row (T : Txt K mg) : FnOk P w K mg base CX0 3 T.f__law_row T.d__law_row ["m", "coder", "many"] (sp_law_row K) := by
  refine T.F__law_row.ok sc_law_row (fun vs H Q E h => ?_) (fun cdv A outer s H vs Q E hr h => ?_)
  · obtain ⟨m, c, l, k, x, C, many, rfl, _⟩ := h
    rfl
  · obtain ⟨m, c, l, k, x, C, many, rfl, hmany, O, hc, D, q⟩ := h
    obtain ⟨a, s, mm, ms, rfl, ha, hs, hm, hmd⟩ := cod_at hc
    have := O.m1
    have := O.m2
    refine ⟨_,
(pss_one (ps_ret (pe_callTy call_tuple_of (by rfl) T.z_tuple (by decide +kernel) (pa_cons (pe_lc (own := [("k", 3)]) rfl sc_law_row.nd (pi_range1 (by rfl) T.z_range (pa_cons (pe_call (ok_law_next T) (hr.mono (by decide)) (by rfl) T.g__law_next T.F__law_next.kp T.b__law_next .nil pass0 (pa_cons (pv 0) (pa_cons (pe_op op_add (pv 2) pe_int) pa_nil))) pa_nil)) (blkOk_by (own := [("k", 3)]) (N := ["m", "coder", "many", "k"]) (sc := defScope s_law_row) (by decide +kernel)) (fun _ _ _ _ _ => (pg_name (i := 3) sc_law_row.nd rfl (Or.inl rfl))) (fun _ _ _ _ _ => pts_nil) (fun _ _ _ _ _ => (pe_call (ok_law_next T) (hr.mono (by decide)) (by rfl) T.g__law_next T.F__law_next.kp T.b__law_next .nil pass0 (pa_cons (pv 0) (pa_cons (pe_callB (My.call_lenK (K := K)) (by rfl) T.z_len (by decide +kernel) (pa_cons (pe_ix (My.ix_tupK (K := K)) (pv 1) pe_int (fun _ _ => rfl)) pa_nil)) pa_nil))))) pa_nil))))
, ?_⟩
    refine ⟨_, rfl, _, rfl, _, _, rfl, rfl, m, c, l, k + many, (many : Int) + 1, rfl, by omega, by omega, D, fun n l1 H1 n0 n1 kp1 D1 => ⟨n, rfl, by omega, by omega, fun S hS => ?_⟩⟩
    have K1 := keep_draw kp1 D
    obtain ⟨cs3, ls3, z3, e31, e32, e33, _⟩ := D1.ex
    have hml : ms.length = C.moves.length := by rw [dpAll_len hmd, List.length_map]
    refine lc_range (lo := 0) (n := n.toNat) (fun i H' => ∃ (l' : Addr) (rs : List Nat), H' S = some (.lst (rowV rs)) ∧ rs.length = i ∧ (∀ r ∈ rs, r < C.moves.length) ∧ Kp m l1 H1 l' H' ∧ Keep H1 H' ∧ Dr H' m c l' (k + many - i) ∧ S ≠ m ∧ S ≠ c ∧ S ≠ l')
      ⟨l1, [], upd_same, rfl, by simp, Kp.new hS, keep_same (same_new hS), D1.new hS, (ne_of_none e31 hS).symm, (ne_of_none e32 hS).symm, (ne_of_none e33 hS).symm⟩ ?_ ?_
    · rintro i H' hi ⟨l', rs, hL, hlen, hrs, kp, kk, D2, nm, nc, nl⟩
      refine ⟨rfl, yes_turn ?_⟩
      have kt := K1.trans kk
      refine ⟨_, rfl, _, rfl, a, _, 3, _, rfl, rfl, kt.tup ha, atI_nat (j := 3) rfl, mm, _, rfl, .inr (kt.tup hm), m, c, l', k + many - (i + 1), (ms.length : Int), rfl, by omega, by omega, ?_, fun r l'' H'' r0 r1 kp' D' => ?_⟩
      · have e : k + many - (i + 1) + 1 = k + many - i := by omega
        rw [e]
        exact D2
      obtain ⟨hL', nl'⟩ := kp'.own hL nm nl
      refine ⟨_, hL', ?_, l'', rs ++ [r.toNat], ?_, by simp [hlen], ?_, (kp.trans kp').set hS, (kk.trans (keep_draw kp' D2)).trans (keep_set hL'), D'.set nm nc nl', nm, nc, nl'⟩
      · show (rs.map _).length < _
        rw [List.length_map]
        exact small1000 (by omega)
      · rw [upd_same]
        unfold rowV
        rw [List.map_append]
        have e : r = ((r.toNat : Nat) : Int) := by omega
        show _ = some (HO.lst (_ ++ [V.int ((r.toNat : Nat) : Int)]))
        rw [← e]
      · intro z hz
        rcases List.mem_append.mp hz with h | h
        · exact hrs z h
        · rw [List.mem_singleton.mp h]
          omega
    · rintro H4 ⟨l4, rs, hL, hlen, hrs, kp4, kk, D4, nm, nc, nl⟩
      refine ⟨S, _, rfl, .inl ⟨SqL.of hL, fun t ht => ?_⟩⟩
      exact q _ rs l4 _ ((kp1.trans kp4).trans (Kp.new ht)) ((D4.less (by omega)).new ht) ⟨by omega, hrs⟩ (by omega) (dp_row upd_tup)
end
end My

/-! rows: what is refused; slices, sums and comparisons of data -/
namespace My
open PySem PySem.Spec PyProof.Rows L2
theorem codeD_out {C : Cod} {d : PyData} (h : codeD C d = true) : ∃ k : Nat, d = .int (k : Int) ∧ k < C.moves.length := by
  cases d with
  | int n =>
    obtain ⟨a, b⟩ := Bool.and_eq_true_iff.mp (show (decide (0 ≤ n) && decide (n ≤ (C.moves.length : Int) - 1)) = true from h)
    have a := of_decide_eq_true a
    have b := of_decide_eq_true b
    exact ⟨n.toNat, by congr 1; omega, by omega⟩
  | _ => cases h
theorem rowBad_none {C : Cod} : ∀ {ds : List PyData} {i : Nat}, i ≤ 2000 → rowBad C i ds = none → i + ds.length ≤ 2000 ∧ ∃ row : List Nat, ds = row.map (fun k : Nat => PyData.int (k : Int)) ∧ ∀ k ∈ row, k < C.moves.length
  | [], i, hi, _ => ⟨hi, [], rfl, fun _ h => by cases h⟩
  | d :: r, i, hi, h => by
    replace h : (if (decide (i = 2000) || !codeD C d) = true then some i else rowBad C (i + 1) r) = none := h
    by_cases e : (decide (i = 2000) || !codeD C d) = true
    · rw [if_pos e] at h
      cases h
    · rw [if_neg e] at h
      have e : (decide (i = 2000) || !codeD C d) = false := by
        cases hb : (decide (i = 2000) || !codeD C d) with
        | true => exact absurd hb e
        | false => rfl
      obtain ⟨e1, e2⟩ := Bool.or_eq_false_iff.mp e
      have e1 := of_decide_eq_false e1
      have e2 : codeD C d = true := by
        cases hb : codeD C d with
        | true => rfl
        | false => rw [hb] at e2; cases e2
      obtain ⟨k, rfl, hk⟩ := codeD_out e2
      obtain ⟨h1, row, rfl, h2⟩ := rowBad_none (by omega) h
      refine ⟨by rw [List.length_cons]; omega, k :: row, rfl, fun j hj => ?_⟩
      rcases List.mem_cons.mp hj with z | z
      · rw [z]; exact hk
      · exact h2 j z
theorem rowRes_row {C : Cod} {r : Option (List PyData)} (h : rowRes C r = none) : ∃ row : List Nat, r = some (row.map (fun k : Nat => PyData.int (k : Int))) ∧ C.Row row := by
  cases r with
  | none => cases h
  | some ds =>
    have h : (rowBad C 0 ds).map (fun (i : Nat) => ((1 : Int), (i : Int) + 1)) = none := h
    cases e : rowBad C 0 ds with
    | some i => rw [e] at h; cases h
    | none =>
      obtain ⟨h1, row, rfl, h2⟩ := rowBad_none (by omega) e
      rw [List.length_map] at h1
      exact ⟨row, rfl, by omega, h2⟩
theorem rowBad_pre {C : Cod} : ∀ {pre : List PyData} {r : List PyData} {i : Nat}, (∀ d ∈ pre, codeD C d = true) → i + pre.length ≤ 2000 → rowBad C i (pre ++ r) = rowBad C (i + pre.length) r
  | [], _, _, _, _ => rfl
  | d :: pre, r, i, h, hl => by
    rw [List.length_cons] at hl
    show (if (decide (i = 2000) || !codeD C d) = true then some i else rowBad C (i + 1) (pre ++ r)) = _
    rw [h d List.mem_cons_self, decide_eq_false (by omega), if_neg (by decide), rowBad_pre (fun e he => h e (List.mem_cons_of_mem d he)) (by omega), List.length_cons]
    congr 1
    omega
theorem codeD_in {C : Cod} {k : Nat} (h : k < C.moves.length) : codeD C (.int (k : Int)) = true := btw_in (by omega) (by omega)
theorem codes_in {C : Cod} {row : List Nat} (h : ∀ k ∈ row, k < C.moves.length) : ∀ d ∈ row.map (fun k : Nat => PyData.int (k : Int)), codeD C d = true := fun d hd => by
  obtain ⟨k, hk, rfl⟩ := List.mem_map.mp hd
  exact codeD_in (h k hk)
theorem row_ok {C : Cod} {d : Option (List PyData)} {row : List Nat} (e : d = some (row.map (fun k : Nat => PyData.int (k : Int)))) (R : C.Row row) : rowRes C d = none := by
  rw [e]
  refine rowRes_ok ?_
  have h := rowBad_pre (C := C) (r := []) (i := 0) (codes_in R.lt) (by rw [List.length_map]; have := R.len; omega)
  rw [List.append_nil] at h
  rw [h]
  rfl
/-- the first thing that is no code, behind codes -/
theorem rowBad_at {C : Cod} {pre : List PyData} {d : PyData} {r : List PyData} (h : ∀ e ∈ pre, codeD C e = true) (hl : pre.length ≤ 2000) (hd : codeD C d = false) : rowBad C 0 (pre ++ d :: r) = some pre.length := by
  rw [rowBad_pre h (by omega), Nat.zero_add]
  show (if (decide (pre.length = 2000) || !codeD C d) = true then some pre.length else _) = _
  rw [hd, if_pos (by rw [Bool.not_false, Bool.or_true])]
theorem rowBad_long {C : Cod} {pre : List PyData} {d : PyData} {r : List PyData} (h : ∀ e ∈ pre, codeD C e = true) (hl : pre.length = 2000) : rowBad C 0 (pre ++ d :: r) = some 2000 := by
  rw [rowBad_pre h (by omega), Nat.zero_add, hl]
  rfl
theorem sl_takeV {K : PySem.W.Frag} {H : Hp} {a : Addr} {xs : List V} {n : Nat} {Q : VK} (h : SqT K H a xs) (hn : n ≤ xs.length) (k : ∀ b H', Same H H' → SqT K H' b (xs.take n) → Q (.ref b) H') :
    rSlA K (.ref a) none (some (n : Int)) H Q := by
  refine ⟨a, xs, rfl, h, fun ⟨_, e⟩ => ?_, fun _ p hp => ?_⟩
  · rw [HT.sIx_nat, Nat.min_eq_left hn] at e
    refine k _ H (Same.refl H) ?_
    rw [e, List.take_length]
    exact h
  · refine k _ _ (same_new hp) ?_
    rw [cut_take (by omega)]
    exact upd_tup
theorem sl_dropV {K : PySem.W.Frag} {H : Hp} {σ : L2.St} {a : Addr} {xs : List V} {n : Nat} {Q : VK} (h : SqT K H a xs) (hn : n ≤ xs.length) (k : ∀ b H', Same H H' → SqT K H' b (xs.drop n) → Q (.ref b) H') :
    tNoPart σ H fun u H3 => rSlA K (.ref a) (some (n : Int)) u H3 Q := by
  refine ⟨a, xs, rfl, h, fun ⟨e, _⟩ => ?_, fun _ p hp => ?_⟩
  · rw [HT.sIx_nat, Nat.min_eq_left hn] at e
    refine k _ H (Same.refl H) ?_
    rw [e]
    exact h
  · refine k _ _ (same_new hp) ?_
    rw [cut_drop (by omega)]
    exact upd_tup
theorem catV {K : PySem.W.Frag} {H : Hp} {a b : Addr} {xs ys : List V} {Q : VK} (ha : SqT K H a xs) (hb : SqT K H b ys) (hl : xs.length + ys.length ≤ sizeLine)
    (k : ∀ p H', Same H H' → SqT K H' p (xs ++ ys) → Q (.ref p) H') : rCatA K (.ref a) (.ref b) H Q := by
  refine ⟨a, b, _, _, rfl, rfl, ha, hb, hl, fun e => ?_, fun _ e => ?_, fun _ _ p hp => ?_⟩
  · refine k _ H (Same.refl H) ?_
    rw [e]
    exact hb
  · refine k _ H (Same.refl H) ?_
    rw [e, List.append_nil]
    exact ha
  · exact k _ _ (same_new hp) upd_tup
theorem neD_f {K : PySem.W.Frag} {H : Hp} {x y : V} {d : PyData} {Z : Bool → Hp → Prop} (hx : Dp K H x d) (hy : Dp K H y d) (hs : SeqAt.shaped d = true) (q : Z false H) :
    rNeD K x y H fun v H' => ∃ k, v = .bl k ∧ Z k H' := by
  refine ⟨d, d, hx, hy, hs, hs, false, ?_, q⟩
  rw [SeqAt.eqv_refl d (SeqAt.canLay_of_shaped hs)]
  rfl
theorem eqD_t {K : PySem.W.Frag} {H : Hp} {x y : V} {d : PyData} {Q : VK} (hx : Dp K H x d) (hy : Dp K H y d) (hs : SeqAt.shaped d = true) (q : Q (.bl true) H) : rEqD K x y H Q := by
  refine ⟨d, d, hx, hy, hs, hs, ?_⟩
  rw [SeqAt.eqv_refl d (SeqAt.canLay_of_shaped hs)]
  exact q
theorem th_of {K : PySem.W.Frag} {H : Hp} {x : V} {T : String} (h : TyOf K H x (.type T)) (e : kitB T "tuple" = some false) : Th K H x none := ⟨T, .base h, kit_ty e⟩
theorem dpAll_rowV {K : PySem.W.Frag} {H : Hp} : ∀ r : List Nat, DpAll K H (rowV r) (r.map fun k : Nat => PyData.int (k : Int))
  | [] => .nil
  | k :: r => .cons (.int _) (dpAll_rowV r)
theorem dpAll_take {K : PySem.W.Frag} {H : Hp} : ∀ {xs : List V} {ds : List PyData} (j : Nat), DpAll K H xs ds → DpAll K H (xs.take j) (ds.take j)
  | _, _, 0, _ => by rw [List.take_zero, List.take_zero]; exact .nil
  | _, _, _ + 1, .nil => .nil
  | _, _, j + 1, .cons a b => .cons a (dpAll_take j b)
theorem dpAll_drop {K : PySem.W.Frag} {H : Hp} : ∀ {xs : List V} {ds : List PyData} (j : Nat), DpAll K H xs ds → DpAll K H (xs.drop j) (ds.drop j)
  | _, _, 0, h => h
  | _, _, _ + 1, .nil => .nil
  | _, _, j + 1, .cons _ b => dpAll_drop j b
def rowL (r : List Nat) : List PyData := r.map fun k : Nat => PyData.int (k : Int)
end My

/-! words of a row's text: the mathematics -/
namespace My
open PySem PySem.Spec PyProof.Rows L2
def strV (ws : List Str) : List V := ws.map V.str
theorem map_get {α β : Type} {f : α → β} {xs : List α} {i : Nat} {y : β} (h : (xs.map f)[i]? = some y) : ∃ x, xs[i]? = some x ∧ y = f x := by
  rw [List.getElem?_map] at h
  cases e : xs[i]? with
  | none => rw [e] at h; cases h
  | some x => rw [e] at h; exact ⟨x, rfl, (Option.some.inj h).symm⟩
theorem get_map {α β : Type} {f : α → β} {xs : List α} {i : Nat} {x : α} (h : xs[i]? = some x) : (xs.map f)[i]? = some (f x) := by
  rw [List.getElem?_map, h]
  rfl
theorem get_mem {α : Type} {xs : List α} {i : Nat} {x : α} (h : xs[i]? = some x) : x ∈ xs := List.mem_of_getElem? h
theorem strs_take {ws : List Str} {i : Nat} {w : Str} (h : ws[i]? = some w) : strV (ws.take (i + 1)) = strV (ws.take i) ++ [V.str w] := by
  have e : ws.take (i + 1) = ws.take i ++ [w] := by
    rw [List.take_succ, h]
    rfl
  rw [e]
  exact List.map_append
/-! ### lengths -/
def lenS (ws : List Str) : Nat := (ws.map fun w => w.length + 1).sum
theorem lenS_app (a b : List Str) : lenS (a ++ b) = lenS a + lenS b := by
  unfold lenS
  rw [List.map_append, List.sum_append]
theorem lenS_take (ws : List Str) (k : Nat) : lenS (ws.take k) ≤ lenS ws := by
  have e : lenS (ws.take k) + lenS (ws.drop k) = lenS ws := by rw [← lenS_app, List.take_append_drop]
  omega
theorem lenS_drop (ws : List Str) (k : Nat) : lenS (ws.drop k) ≤ lenS ws := by
  have e : lenS (ws.take k) + lenS (ws.drop k) = lenS ws := by rw [← lenS_app, List.take_append_drop]
  omega
theorem lenS_cons (w : Str) (r : List Str) : lenS (w :: r) = w.length + 1 + lenS r := by
  unfold lenS
  rw [List.map_cons, List.sum_cons]
theorem lenS_count : ∀ ws : List Str, ws.length ≤ lenS ws
  | [] => Nat.zero_le _
  | w :: r => by
    have := lenS_count r
    rw [lenS_cons, List.length_cons]
    omega
theorem lenS_mem : ∀ {ws : List Str} {w : Str}, w ∈ ws → w.length ≤ lenS ws
  | v :: r, w, h => by
    rw [lenS_cons]
    rcases List.mem_cons.mp h with e | h
    · rw [e]; omega
    · have := lenS_mem h
      omega
theorem lenS_sum : ∀ ws : List Str, (ws.map (·.length)).sum + ws.length = lenS ws
  | [] => rfl
  | w :: r => by
    have := lenS_sum r
    rw [lenS_cons, List.map_cons, List.sum_cons, List.length_cons]
    omega
theorem spl_sum : ∀ (l acc : List Nat), ((TL.spl [32] 0 acc l).map fun p => p.length + 1).sum = acc.length + l.length + 1
  | [], acc => by
    rw [TL.spl_nil]
    show acc.length + 1 + 0 = _
    rfl
  | c :: r, acc => by
    cases h : TL.pre [32] (c :: r) with
    | true =>
      rw [TL.spl_hit h]
      have := spl_sum r []
      show acc.length + 1 + ((TL.spl [32] 0 [] r).map fun p => p.length + 1).sum = _
      rw [this, List.length_cons, List.length_nil]
      omega
    | false =>
      rw [TL.spl_miss h, spl_sum r (acc ++ [c]), List.length_append, List.length_cons, List.length_cons, List.length_nil]
      omega
theorem split_tl (x : Str) : (Txt.split x " ").map TL.tl = TL.spl [32] 0 [] (TL.tl x) := by
  have h := TL.split_spl x " " (by rw [tl_blank]; exact List.cons_ne_nil _ _) (TL.kind_ok (by decide +kernel))
  rw [tl_blank] at h
  exact h
theorem split_sum (x : Str) : lenS (Txt.split x " ") = x.length + 1 := by
  have h := spl_sum (TL.tl x) []
  rw [← split_tl, List.map_map] at h
  unfold lenS
  have e : ((fun p : List Nat => p.length + 1) ∘ TL.tl) = fun w : Str => w.length + 1 := by
    funext w
    show (TL.tl w).length + 1 = w.length + 1
    rw [TL.len_tl]
  rw [e, List.length_nil, ← TL.len_tl] at h
  rw [h]
  omega
theorem split_ne (x : Str) : Txt.split x " " ≠ [] := fun e => by
  have h := split_sum x
  rw [e] at h
  have : lenS [] = 0 := rfl
  omega
theorem split_count (x : Str) : (Txt.split x " ").length ≤ x.length + 1 := by
  have := lenS_count (Txt.split x " ")
  rw [split_sum] at this
  exact this
theorem joinL_sum : ∀ ps : List (List Nat), (TL.joinL [32] ps).length ≤ (ps.map fun p => p.length + 1).sum
  | [] => Nat.zero_le _
  | [p] => by
    show p.length ≤ p.length + 1 + 0
    omega
  | p :: q :: r => by
    have := joinL_sum (q :: r)
    show (p ++ ([32] ++ TL.joinL [32] (q :: r))).length ≤ p.length + 1 + ((q :: r).map fun p => p.length + 1).sum
    rw [List.length_append, List.length_append]
    have e : ([32] : List Nat).length = 1 := rfl
    omega
theorem row_sum (ws : List Str) : (rowT ws).length ≤ lenS ws := by
  rw [TL.len_tl, tl_row]
  have h := joinL_sum (ws.map TL.tl)
  rw [List.map_map] at h
  have e : ((fun p : List Nat => p.length + 1) ∘ TL.tl) = fun w : Str => w.length + 1 := by
    funext w
    show (TL.tl w).length + 1 = w.length + 1
    rw [TL.len_tl]
  rw [e] at h
  exact h
/-! ### codes -/
theorem flat_strs (ws : List Str) : (strV ws).all flatV = true := by
  rw [List.all_eq_true]
  intro v hv
  obtain ⟨x, _, rfl⟩ := List.mem_map.mp hv
  rfl
theorem eqV_str {a b : Str} : eqV (.str a) (.str b) = true ↔ a = b := by
  show (a == b) = true ↔ a = b
  exact beq_iff_eq
theorem in_iff {x : Str} {ws : List Str} : inV (.str x) (strV ws) = true ↔ x ∈ ws := by
  unfold inV
  rw [List.any_eq_true]
  constructor
  · rintro ⟨v, hv, e⟩
    obtain ⟨y, hy, rfl⟩ := List.mem_map.mp hv
    rw [← eqV_str.mp e]
    exact hy
  · intro h
    exact ⟨_, List.mem_map.mpr ⟨x, h, rfl⟩, eqV_str.mpr rfl⟩
def codW (n : Nat) : List Str := (List.range n).map fun k : Nat => sI (k : Int)
def isC (n : Nat) (w : Str) : Bool := inV (.str w) (strV (codW n))
theorem isC_iff {n : Nat} {w : Str} : isC n w = true ↔ ∃ k : Nat, k < n ∧ w = sI (k : Int) := by
  unfold isC
  rw [in_iff]
  unfold codW
  rw [List.mem_map]
  constructor
  · rintro ⟨k, hk, e⟩
    exact ⟨k, List.mem_range.mp hk, e.symm⟩
  · rintro ⟨k, hk, e⟩
    exact ⟨k, List.mem_range.mpr hk, e.symm⟩
theorem isC_f {n : Nat} {w : Str} : isC n w = false ↔ ¬ ∃ k : Nat, k < n ∧ w = sI (k : Int) := by
  rw [← isC_iff]
  cases isC n w <;> simp
theorem codW_len (n : Nat) : (codW n).length = n := by
  unfold codW
  rw [List.length_map, List.length_range]
theorem codW_at {n k : Nat} (h : k < n) : (codW n)[k]? = some (sI (k : Int)) := by
  unfold codW
  exact get_map (by rw [List.getElem?_range h])
theorem code_inj {a b : Nat} (ha : a < 100000) (hb : b < 100000) (h : sI (a : Int) = sI (b : Int)) : a = b := by
  have := sI_inj (by omega) (by omega) h
  omega
/-- the code that a word tells -/
def kOf (n : Nat) (w : Str) : Nat := ((List.range n).find? fun k : Nat => eqV (.str (sI (k : Int))) (.str w)).getD 0
theorem kOf_sI {n k : Nat} (hn : n ≤ 1000) (h : k < n) : kOf n (sI (k : Int)) = k := by
  unfold kOf
  cases e : (List.range n).find? fun j : Nat => eqV (.str (sI (j : Int))) (.str (sI (k : Int))) with
  | none =>
    have := List.find?_eq_none.mp e k (List.mem_range.mpr h)
    exact absurd (eqV_str.mpr rfl) this
  | some j =>
    have h1 := List.find?_some e
    have h2 := List.mem_range.mp (List.mem_of_find?_eq_some e)
    have h3 : sI (j : Int) = sI (k : Int) := eqV_str.mp h1
    exact code_inj (a := j) (b := k) (by omega) (by omega) h3
theorem kOf_at {n : Nat} {w : Str} (hn : n ≤ 1000) (h : isC n w = true) : kOf n w < n ∧ w = sI ((kOf n w : Nat) : Int) := by
  obtain ⟨k, hk, rfl⟩ := isC_iff.mp h
  rw [kOf_sI hn hk]
  exact ⟨hk, rfl⟩
/-! ### the first word that is no code -/
def wrongT (n : Nat) (ws : List Str) (i : Nat) : List Nat := (List.range i).filter fun k => !isC n (ws.getD k Str.empty)
theorem getD_of {ws : List Str} {i : Nat} {w : Str} (h : ws[i]? = some w) : ws.getD i Str.empty = w := by
  rw [List.getD_eq_getElem?_getD, h]
  rfl
theorem wrongT_succ {n : Nat} {ws : List Str} {i : Nat} {w : Str} (h : ws[i]? = some w) : wrongT n ws (i + 1) = wrongT n ws i ++ (if isC n w = true then [] else [i]) := by
  unfold wrongT
  rw [List.range_succ, List.filter_append]
  congr 1
  rw [List.filter_cons, List.filter_nil, getD_of h]
  cases isC n w <;> rfl
def AllC (n : Nat) (ws : List Str) (i : Nat) : Prop := ∀ k w, k < i → ws[k]? = some w → isC n w = true
theorem allC_succ {n : Nat} {ws : List Str} {i : Nat} {w : Str} (a : AllC n ws i) (h : ws[i]? = some w) (hw : isC n w = true) : AllC n ws (i + 1) := fun k v hk hv => by
  by_cases e : k = i
  · subst e
    rw [h] at hv
    cases hv
    exact hw
  · exact a k v (by omega) hv
theorem wrongT_nil {n : Nat} {ws : List Str} {i : Nat} (hi : i ≤ ws.length) (a : AllC n ws i) : wrongT n ws i = [] := by
  unfold wrongT
  rw [List.filter_eq_nil_iff]
  intro k hk
  have hk := List.mem_range.mp hk
  have e : ws[k]? = some (ws[k]'(by omega)) := List.getElem?_eq_getElem (by omega)
  rw [getD_of e, a k _ hk e]
  decide
theorem wrongT_more {n : Nat} {ws : List Str} {i : Nat} : ∀ d : Nat, ∃ r, wrongT n ws (i + d) = wrongT n ws i ++ r ∧ ∀ k ∈ r, i ≤ k ∧ k < i + d
  | 0 => ⟨[], by rw [List.append_nil]; rfl, fun _ h => by cases h⟩
  | d + 1 => by
    obtain ⟨r, h1, h2⟩ := wrongT_more (n := n) (ws := ws) (i := i) d
    refine ⟨r ++ ([i + d].filter fun k => !isC n (ws.getD k Str.empty)), ?_, fun k hk => ?_⟩
    · rw [← List.append_assoc, ← h1]
      show (List.range (i + d + 1)).filter _ = _
      rw [List.range_succ, List.filter_append]
      rfl
    · rcases List.mem_append.mp hk with h | h
      · have := h2 k h
        omega
      · have := List.mem_singleton.mp (List.mem_filter.mp h).1
        omega
def rdW (n : Nat) (ws : List Str) : Option (Int × Int) := match wrongT n ws ws.length with
  | k :: _ => if k < 2000 then some (1, (k : Int) + 1) else some (1, 2001)
  | [] => if 2000 < ws.length then some (1, 2001) else none
theorem rdW_bad {n : Nat} {ws : List Str} {i : Nat} {w : Str} (a : AllC n ws i) (h : ws[i]? = some w) (hw : isC n w = false) (hi : i < 2000) : rdW n ws = some (1, (i : Int) + 1) := by
  have hl := (List.getElem?_eq_some_iff.mp h).1
  obtain ⟨r, h1, _⟩ := wrongT_more (n := n) (ws := ws) (i := i + 1) (ws.length - (i + 1))
  rw [show i + 1 + (ws.length - (i + 1)) = ws.length by omega, wrongT_succ h, wrongT_nil (by omega) a, hw] at h1
  unfold rdW
  rw [h1]
  show (if i < 2000 then _ else _) = _
  rw [if_pos hi]
theorem rdW_long {n : Nat} {ws : List Str} (a : AllC n ws 2000) (h : 2000 < ws.length) : rdW n ws = some (1, 2001) := by
  obtain ⟨r, h1, h2⟩ := wrongT_more (n := n) (ws := ws) (i := 2000) (ws.length - 2000)
  rw [show 2000 + (ws.length - 2000) = ws.length by omega, wrongT_nil (by omega) a, List.nil_append] at h1
  unfold rdW
  rw [h1]
  cases r with
  | nil => exact if_pos h
  | cons k r =>
    have := h2 k List.mem_cons_self
    show (if k < 2000 then _ else _) = _
    rw [if_neg (by omega)]
theorem rdW_ok {n : Nat} {ws : List Str} (a : AllC n ws ws.length) (h : ws.length ≤ 2000) : rdW n ws = none := by
  unfold rdW
  rw [wrongT_nil (Nat.le_refl _) a]
  exact if_neg (by omega)
theorem rdW_none {n : Nat} {ws : List Str} (h : rdW n ws = none) : ws.length ≤ 2000 ∧ ∀ w ∈ ws, isC n w = true := by
  unfold rdW at h
  cases e : wrongT n ws ws.length with
  | cons k r =>
    rw [e] at h
    replace h : (if k < 2000 then some ((1 : Int), (k : Int) + 1) else some (1, 2001)) = none := h
    split at h <;> cases h
  | nil =>
    rw [e] at h
    replace h : (if 2000 < ws.length then some ((1 : Int), (2001 : Int)) else none) = none := h
    have hl : ws.length ≤ 2000 := by
      by_cases z : 2000 < ws.length
      · rw [if_pos z] at h; cases h
      · omega
    refine ⟨hl, fun w hw => ?_⟩
    obtain ⟨i, hi, rfl⟩ := List.getElem_of_mem hw
    have := (List.filter_eq_nil_iff.mp e) i (List.mem_range.mpr hi)
    rw [getD_of (List.getElem?_eq_getElem hi)] at this
    cases hc : isC n ws[i] with
    | true => rfl
    | false => rw [hc] at this; exact absurd rfl this
/-- how the reading of a text ends: the refusal, or none -/
def rdRes (n : Nat) (t : Str) : Option (Int × Int) := if V.str t = V.str "" then none else if inV (.str "") (strV (Txt.split t " ")) = true then some (1, 0) else rdW n (Txt.split t " ")
def rdRow (n : Nat) (t : Str) : List Nat := if V.str t = V.str "" then [] else (Txt.split t " ").map (kOf n)
theorem rdRow_row {C : Cod} (O : C.Ok) {t : Str} (h : rdRes C.moves.length t = none) : C.Row (rdRow C.moves.length t) := by
  have hn : C.moves.length ≤ 1000 := by have := O.m2; omega
  unfold rdRes at h
  unfold rdRow
  by_cases e : V.str t = V.str ""
  · rw [if_pos e]
    exact ⟨Nat.zero_le _, fun _ hk => by cases hk⟩
  · rw [if_neg e] at h
    rw [if_neg e]
    cases e2 : inV (.str "") (strV (Txt.split t " ")) with
    | true => rw [e2] at h; cases h
    | false =>
      rw [e2, if_neg (by decide)] at h
      obtain ⟨h1, h2⟩ := rdW_none h
      refine ⟨by rw [List.length_map]; exact h1, fun k hk => ?_⟩
      obtain ⟨w, hw, rfl⟩ := List.mem_map.mp hk
      exact (kOf_at hn (h2 w hw)).1
def outT (n : Nat) : Option Str → PyData
  | none => .tuple [.int 0, .int 0]
  | some t => match rdRes n t with
    | some (i, j) => .tuple [.int i, .int j]
    | none => .list [rowI (rdRow n t)]
theorem outT_bad {n : Nat} {t : Str} {i j : Int} (h : rdRes n t = some (i, j)) : outT n (some t) = .tuple [.int i, .int j] := by
  show (match rdRes n t with
    | some (i, j) => PyData.tuple [.int i, .int j]
    | none => .list [rowI (rdRow n t)]) = _
  rw [h]
theorem outT_ok {n : Nat} {t : Str} (h : rdRes n t = none) : outT n (some t) = .list [rowI (rdRow n t)] := by
  show (match rdRes n t with
    | some (i, j) => PyData.tuple [.int i, .int j]
    | none => .list [rowI (rdRow n t)]) = _
  rw [h]
theorem res_empty {n : Nat} : rdRes n "" = none := if_pos rfl
theorem res_word {n : Nat} {t : Str} (h : V.str t ≠ V.str "") (h2 : inV (.str "") (strV (Txt.split t " ")) = true) : rdRes n t = some (1, 0) := by
  unfold rdRes
  rw [if_neg h, if_pos h2]
theorem res_row {n : Nat} {t : Str} (h : V.str t ≠ V.str "") (h2 : inV (.str "") (strV (Txt.split t " ")) = false) : rdRes n t = rdW n (Txt.split t " ") := by
  unfold rdRes
  rw [if_neg h, if_neg (by rw [h2]; decide)]
theorem row_at_empty {n : Nat} : rdRow n "" = [] := if_pos rfl
theorem row_at_words {n : Nat} {t : Str} (h : V.str t ≠ V.str "") : rdRow n t = (Txt.split t " ").map (kOf n) := if_neg h
/-- the text of a row is read as the row -/
theorem rowT_nil : rowT [] = "" := TL.ext_tl (by rw [tl_row]; decide +kernel)
theorem split_codes {row : List Nat} (h : row ≠ []) : Txt.split (rowT (row.map fun k : Nat => sI (k : Int))) " " = row.map fun k : Nat => sI (k : Int) :=
  split_row (fun e => h (List.map_eq_nil_iff.mp e)) fun w hw => by
    obtain ⟨k, _, rfl⟩ := List.mem_map.mp hw
    exact sI_free (by decide) (.inl (by decide))
theorem codes_ne {row : List Nat} (h : row ≠ []) : V.str (rowT (row.map fun k : Nat => sI (k : Int))) ≠ V.str "" := fun e => by
  have e := V.str.inj e
  have h1 := split_codes h
  rw [e, show Txt.split "" " " = [("" : Str)] by decide +kernel] at h1
  cases row with
  | nil => exact h rfl
  | cons k r =>
    injection h1 with h1 _
    have h1 : ("" : Str) = sI (k : Int) := h1
    exact sI_ne (k : Int) (by rw [← h1]; decide +kernel)
theorem codes_no_empty (row : List Nat) : inV (.str "") (strV (row.map fun k : Nat => sI (k : Int))) = false := by
  cases e : inV (.str "") (strV (row.map fun k : Nat => sI (k : Int))) with
  | false => rfl
  | true =>
    obtain ⟨k, _, h⟩ := List.mem_map.mp (in_iff.mp e)
    have h : sI (k : Int) = "" := h
    exact absurd (by rw [h]; decide +kernel) (sI_ne (k : Int))
theorem read_back {n : Nat} {row : List Nat} (hn : n ≤ 1000) (hl : row.length ≤ 2000) (h : ∀ k ∈ row, k < n) :
    rdRes n (rowT (row.map fun k : Nat => sI (k : Int))) = none ∧ rdRow n (rowT (row.map fun k : Nat => sI (k : Int))) = row := by
  by_cases e : row = []
  · subst e
    show rdRes n (rowT []) = none ∧ rdRow n (rowT []) = []
    rw [rowT_nil]
    exact ⟨res_empty, row_at_empty⟩
  · have h1 := codes_ne e
    have h2 := split_codes e
    refine ⟨?_, ?_⟩
    · rw [res_row h1 (by rw [h2]; exact codes_no_empty row), h2]
      refine rdW_ok (fun k w _ hw => ?_) (by rw [List.length_map]; exact hl)
      obtain ⟨j, hj, rfl⟩ := map_get hw
      exact isC_iff.mpr ⟨j, h j (get_mem hj), rfl⟩
    · rw [row_at_words h1, h2, List.map_map]
      have e2 : row.map (kOf n ∘ fun k : Nat => sI (k : Int)) = row.map id := List.map_congr_left fun k hk => kOf_sI hn (h k hk)
      rw [e2, List.map_id]
end My

set_option pp.maxSteps 1500
namespace My
open PySem PySem.Spec PyProof.Rows L2
theorem lt_line {n : Nat} (h : n ≤ 1000000) : n < sizeLine := Nat.lt_of_le_of_lt h (by decide)
theorem len_bl : (" " : Str).length ≤ 1 := by decide +kernel
theorem few_sum {ws : List Str} {y : Str} (h : ∀ w ∈ ws, w.length ≤ 6) (hl : ws.length ≤ 10000) (hy : y.length ≤ 1) : (ws.map (·.length)).sum + ws.length * y.length ≤ 16777216 := by
  have h := sum_len h
  have : ws.length * y.length ≤ 10000 * 1 := Nat.mul_le_mul hl hy
  omega
theorem tyx_same {K : PySem.W.Frag} {H H' : Hp} {x : V} {T : String} (s : Same H H') (h1 : TyX K H x (.type T)) : TyX K H' x (.type T) := by
  cases h1 with
  | base h =>
    cases h with
    | non => exact .base .non
    | bl b => exact .base (.bl b)
    | int i => exact .base (.int i)
    | str x => exact .base (.str x)
    | flt x => exact .base (.flt x)
    | lst e => exact .base (.lst (s _ _ e))
    | frz e => exact .base (.frz (s _ _ e))
    | tup e => exact .base (.tup (s _ _ e))
    | dK e => exact .base (.dK (s _ _ e))
    | dT e => exact .base (.dT (s _ _ e))
  | byt b => exact .byt b
  | set e => exact .set (s _ _ e)
  | kList e c => exact .kList e c
  | kTuple e c => exact .kTuple e c
  | kDict e c => exact .kDict e c
  | fTuple e => exact .fTuple (s _ _ e)
  | fDict e => exact .fDict (s _ _ e)
/-- a thing handed in as a text: a text, or anything but a text -/
def ThS (K : PySem.W.Frag) (H : Hp) (x : V) : Option Str → Prop
  | none => ∃ T : String, TyX K H x (.type T) ∧ PySem.W.kitOne K (.type T) (.type "str") = some false
  | some t => x = .str t
theorem ThS.same {K : PySem.W.Frag} {H H' : Hp} {x : V} {r : Option Str} (s : Same H H') (h : ThS K H x r) : ThS K H' x r := by
  cases r with
  | some t => exact h
  | none =>
    obtain ⟨T, h1, h2⟩ := h
    exact ⟨T, tyx_same s h1, h2⟩
theorem ths_of {K : PySem.W.Frag} {H : Hp} {x : V} {T : String} (h : TyOf K H x (.type T)) (e : kitB T "str" = some false) : ThS K H x none := ⟨T, .base h, kit_ty e⟩
/-- digits: all signs -/
theorem dig_iff (c : Nat) : decide (c ∈ ("0123456789" : Str).cps.toList) = true ↔ 48 ≤ c ∧ c ≤ 57 := by
  rw [decide_eq_true_eq]
  have e : ("0123456789" : Str).cps.toList = [48, 49, 50, 51, 52, 53, 54, 55, 56, 57] := by decide +kernel
  rw [e]
  constructor
  · intro h
    simp at h
    omega
  · intro h
    simp
    omega
theorem all_dig {l : List Nat} : (l.map fun c => decide (c ∈ ("0123456789" : Str).cps.toList)).all id = true ↔ NumText.AllDigits l := by
  rw [List.all_eq_true]
  constructor
  · intro h c hc
    exact (dig_iff c).mp (h _ (List.mem_map.mpr ⟨c, hc, rfl⟩))
  · intro h b hb
    obtain ⟨c, hc, rfl⟩ := List.mem_map.mp hb
    exact (dig_iff c).mpr (h c hc)
theorem num_form {w z : Str} (h : TL.tl w = 45 :: TL.tl z ∨ ((∀ ds, TL.tl w ≠ 45 :: ds) ∧ z = w)) :
    IsNum w ↔ (1 ≤ z.length ∧ z.length ≤ 5) ∧ NumText.AllDigits (TL.tl z) ∧ (w = "0" ∨ (TL.tl z).head? ≠ some 48) := by
  rw [TL.len_tl]
  rcases h with h | ⟨h, rfl⟩
  · rw [num_neg h]
    constructor
    · rintro ⟨a, b, c⟩
      exact ⟨a, b, .inr c⟩
    · rintro ⟨a, b, c | c⟩
      · rw [c, show TL.tl "0" = [48] by decide +kernel] at h
        cases h
      · exact ⟨a, b, c⟩
  · exact num_pos h
theorem cut_tail {w : Str} {ds : List Nat} (h : TL.tl w = 45 :: ds) : TL.tl (cutS w (some 1) none) = ds := by
  have hl : w.length = ds.length + 1 := by rw [TL.len_tl, h]; rfl
  show ((((w).cps.toList.drop (HT.sIx w.length 0 (some ((1 : Nat) : Int)))).take (HT.sIx w.length w.length none - HT.sIx w.length 0 (some ((1 : Nat) : Int)))).toArray).toList = _
  rw [HT.sIx_nat, HT.sIx_none, show w.cps.toList = 45 :: ds from h, hl, show min 1 (ds.length + 1) = 1 by omega, Nat.add_sub_cancel]
  show ds.take _ = _
  rw [List.take_length]
section
variable {P : Program} {w : World} {K : PySem.W.Frag} {mg : Str → Option Value} {base : Heap}
def sp_spaced (K : PySem.W.Frag) : Sp := fun vs H Q _ => ∃ (a : Addr) (ns : List Int), vs = [.ref a] ∧ SqT K H a (ns.map V.int) ∧ ns.length ≤ 3000 ∧ (∀ n ∈ ns, n.natAbs < 100000) ∧ ∀ H', Same H H' → Q (.str (rowT (ns.map sI))) H'
theorem ok_spaced (T : Txt K mg) : FnOk P w K mg base CX0 2 T.f__spaced T.d__spaced ["numbers"] (sp_spaced K) := by
  refine T.F__spaced.ok sc_spaced (fun vs H Q E h => ?_) (fun cdv A outer s H vs Q E hr h => ?_)
  · obtain ⟨a, ns, rfl, _⟩ := h
    rfl
  · obtain ⟨a, ns, rfl, ha, hl, hs, q⟩ := h
    refine ⟨_,
(pss_one (ps_ret (pe_bm PySem.F.plainAttrs_str PySem.F.slot_str_join PySem.F.type_str_join mt_join pe_str (pa_cons (pe_lc (own := [("number", 1)]) rfl sc_spaced.nd (pi_tup (pv 0)) (blkOk_by (own := [("number", 1)]) (N := ["numbers", "number"]) (sc := defScope s_spaced) (by decide +kernel)) (fun _ _ _ _ _ => (pg_name (i := 1) sc_spaced.nd rfl (Or.inl rfl))) (fun _ _ _ _ _ => pts_nil) (fun _ _ _ _ _ => (pe_callTy call_str_int (by rfl) T.z_str (by decide +kernel) (pa_cons (pv 1) pa_nil)))) pa_nil))))
, ?_⟩
    refine ⟨rfl, _, rfl, a, rfl, ⟨_, ha⟩, fun D hD => ?_⟩
    refine lc_tup (K := K) (a := a) (xs := ns.map V.int) (fun i H' => H' = upd H D (.lst (strV ((ns.map sI).take i)))) rfl ?_ ?_ ?_
    · rintro i H' _ rfl
      exact same_tup (same_new hD) ha
    · rintro i x H' hx rfl
      obtain ⟨n, hn, rfl⟩ := map_get hx
      refine ⟨rfl, yes_turn ?_⟩
      refine ⟨_, rfl, n, rfl, log_ok (hs n (get_mem hn)), strV ((ns.map sI).take i), upd_same, ?_, ?_⟩
      · unfold strV
        rw [List.length_map, List.length_take, List.length_map]
        exact lt_line (by omega)
      · rw [upd_upd, strs_take (get_map hn)]
        rfl
    · rintro H' rfl
      have e : strV ((ns.map sI).take (ns.map V.int).length) = strV (ns.map sI) := by
        rw [List.take_of_length_le (by rw [List.length_map, List.length_map]; exact Nat.le_refl _)]
      rw [e]
      refine ⟨" ", D, ns.map sI, rfl, rfl, .inl (SqL.of upd_same), few_sum (words_len hs) (by rw [List.length_map]; omega) len_bl, q _ (same_new hD)⟩
def sp_need_text (K : PySem.W.Frag) (BR : Addr) : Sp := fun vs H Q E => ∃ (x : V) (r : Option Str), vs = [x] ∧ ThS K H x r ∧ (∀ t, r = some t → Q .non H) ∧ (r = none → RowE BR H E 0 0)
theorem ok_need_text (T : Txt K mg) : FnOk P w K mg base (L2.CX P w) 4 T.f__need_text T.d__need_text ["thing"] (sp_need_text K T.C_BadRow) := by
  refine T.F__need_text.okX sc_need_text (fun vs H Q E h => ?_) (fun cdv A outer s H vs Q E hr h => ?_)
  · obtain ⟨x, r, rfl, _⟩ := h
    rfl
  · obtain ⟨x, r, rfl, hx, q1, q2⟩ := h
    refine ⟨_,
(pss_one (ps_if (pt_not (pt_val (pe_callB (call_isi) (by rfl) T.z_isinstance (by decide +kernel) (pa_cons (pv 0) (pa_cons (pe_bltn (v := .ty "str") (by rfl) T.z_str (by decide +kernel) rfl) pa_nil))))) (pss_one (ps_raise rfl (takes_of rfl rfl rfl rfl) (pmk_oex T.o_BadRow T.i_BadRow T.t_BadRow (oki_BadRow T) (hr.mono (by decide)) T.bi_BadRow .nil pass0 (by rfl) T.g_BadRow (pa_cons pe_int (pa_cons pe_int pa_nil))))) pss_nil))
, ?_⟩
    cases r with
    | some t =>
      obtain rfl : x = .str t := hx
      refine ⟨_, rfl, _, .ty "str", _, _, _, rfl, .ty _, .base (.str t), kit_ty (a := "str") (b := "str") (r := true) (by decide +kernel), _, rfl, ?_⟩
      exact iteF (q1 t rfl)
    | none =>
      obtain ⟨TT, t1, t2⟩ := hx
      refine ⟨_, rfl, _, .ty "str", _, _, _, rfl, .ty _, t1, t2, _, rfl, ?_⟩
      refine iteT ?_
      refine ⟨by decide, fun a ha => ⟨a, .int 0, .int 0, rfl, upd_same, fun d hd n => ⟨rfl, d, _, (upd_ne n.symm).trans upd_same, upd_same, (upd_ne n).symm.trans hd, rowE_mk (q2 rfl) ha hd n⟩⟩⟩
def sp_no_empty (K : PySem.W.Frag) (BR : Addr) : Sp := fun vs H Q E => ∃ (r : Int) (a : Addr) (ws : List Str), vs = [.int r, .ref a] ∧ SqL K H a (strV ws) ∧ (inV (.str "") (strV ws) = false → Q .non H) ∧ (inV (.str "") (strV ws) = true → RowE BR H E r 0)
theorem ok_need_no_empty_word (T : Txt K mg) : FnOk P w K mg base (L2.CX P w) 4 T.f__need_no_empty_word T.d__need_no_empty_word ["row", "words"] (sp_no_empty K T.C_BadRow) := by
  refine T.F__need_no_empty_word.okX sc_need_no_empty_word (fun vs H Q E h => ?_) (fun cdv A outer s H vs Q E hr h => ?_)
  · obtain ⟨r, a, ws, rfl, _⟩ := h
    rfl
  · obtain ⟨r, a, ws, rfl, hw, q1, q2⟩ := h
    refine ⟨_,
(pss_one (ps_if (pt_cmpR op_in_seq pe_str (pv 1) (by with_unfolding_all rfl)) (pss_one (ps_raise rfl (takes_of rfl rfl rfl rfl) (pmk_oex T.o_BadRow T.i_BadRow T.t_BadRow (oki_BadRow T) (hr.mono (by decide)) T.bi_BadRow .nil pass0 (by rfl) T.g_BadRow (pa_cons (pv 0) (pa_cons pe_int pa_nil))))) pss_nil))
, ?_⟩
    refine ⟨_, rfl, a, _, rfl, .inl hw, rfl, flat_strs ws, _, rfl, ?_⟩
    show if inV (.str "") (strV ws) = true then _ else _
    cases h : inV (.str "") (strV ws) with
    | false => exact iteF (q1 h)
    | true =>
      refine iteT ?_
      refine ⟨_, rfl, by show 2 ≤ 1000; decide, fun a ha => ⟨a, .int r, .int 0, rfl, upd_same, fun d hd n => ⟨rfl, d, _, (upd_ne n.symm).trans upd_same, upd_same, (upd_ne n).symm.trans hd, rowE_mk (q2 h) ha hd n⟩⟩⟩
def sp_is_number : Sp := fun vs H Q _ => ∃ x : Str, vs = [.str x] ∧ x.length ≤ 1000000 ∧ ∀ b H', Same H H' → (b = true ↔ IsNum x) → Q (.bl b) H'
theorem ok_is_number (T : Txt K mg) : FnOk P w K mg base CX0 2 T.f__is_number T.d__is_number ["word"] sp_is_number := by
  refine T.F__is_number.ok sc_is_number (fun vs H Q E h => ?_) (fun cdv A outer s H vs Q E hr h => ?_)
  · obtain ⟨n, rfl, _⟩ := h
    rfl
  · obtain ⟨x, rfl, hx, q⟩ := h
    refine ⟨_,
(pss_cons (ps_set (i := 1) sc_is_number.nd rfl (Or.inl rfl) (pe_ifExp (pt_val (pe_bm PySem.F.plainAttrs_str PySem.F.slot_str_startswith PySem.F.type_str_startswith mt_startswith (pv 0) (pa_cons pe_str pa_nil))) (pe_slice sl_str (pv 0) (po_some pe_int) po_none) (pv 0)))
      (pss_cons (ps_if (pt_not (pt_chain op_le op_le pe_int (pe_callB call_len_str (by rfl) T.z_len (by decide +kernel) (pa_cons (pv 1) pa_nil)) pe_int)) (pss_one (ps_ret pe_bl)) pss_nil)
      (pss_cons (ps_if (pt_not (pt_val (pe_callB ((cr_all rfl)) (by rfl) T.z_all (by decide +kernel) (pa_cons (pe_lc (own := [("sign", 2)]) rfl sc_is_number.nd (pi_str (pv 1)) (blkOk_by (own := [("sign", 2)]) (N := ["word", "digits", "sign"]) (sc := defScope s_is_number) (by decide +kernel)) (fun _ _ _ _ _ => (pg_name (i := 2) sc_is_number.nd rfl (Or.inl rfl))) (fun _ _ _ _ _ => pts_nil) (fun _ _ _ _ _ => (pe_cmpR op_in_sign (pv 2) (pe_glob (v := .str "0123456789") (by rfl) T.g_DIGITS ⟨_, rfl⟩) (by with_unfolding_all rfl)))) pa_nil)))) (pss_one (ps_ret pe_bl)) pss_nil)
      (pss_one (ps_ret (pe_or (pe_cmpR op_eq (pv 0) pe_str (nomark _)) (pe_one (pe_cmpR op_ne (pe_ix ix_str (pv 1) pe_int (fun _ _ => rfl)) pe_str (nomark _)))))))))
, ?_⟩
    dsimp only
    refine st_tail (fun σ H' => ∃ z : Str, σ = [some (.str x), some (.str z), none] ∧ H' = H ∧ z.length ≤ 1000000 ∧ (TL.tl x = 45 :: TL.tl z ∨ ((∀ ds, TL.tl x ≠ 45 :: ds) ∧ z = x))) ?_ fun tail => ?_
    · rintro σ H1 ⟨z, rfl, rfl, zl, hz⟩
      have form := num_form hz
      refine ⟨_, rfl, z, rfl, sz_line zl, 1, _, rfl, rfl, _, rfl, ?_⟩
      by_cases h1 : (1 : Int) ≤ (z.length : Int)
      · rw [decide_eq_true h1]
        refine iteT ⟨_, _, rfl, rfl, _, rfl, ?_⟩
        by_cases h5 : (z.length : Int) ≤ 5
        · rw [decide_eq_true h5]
          refine iteF ?_
          refine ⟨_, rfl, z, rfl, fun D hD => ?_⟩
          refine lc_it (walk_str (z := z)) (fun i H' => H' = upd H1 D (.lst (((z.cps.toList.take i).map fun c => decide (c ∈ ("0123456789" : Str).cps.toList)).map V.bl))) rfl (fun _ _ _ _ => trivial) ?_ ?_
          · rintro i y H2 H3 hi rfl ⟨rfl, c, hc, rfl⟩
            have hc' : z.cps.toList[i]? = some c := by rw [Array.getElem?_toList]; exact hc
            refine ⟨rfl, yes_turn ?_⟩
            refine ⟨_, rfl, c, "0123456789", rfl, rfl, ((z.cps.toList.take i).map fun c => decide (c ∈ ("0123456789" : Str).cps.toList)).map V.bl, upd_same, ?_, ?_⟩
            · rw [List.length_map, List.length_map, List.length_take]
              have : z.cps.toList.length = z.length := by rw [Array.length_toList]; rfl
              exact lt_line (by omega)
            · rw [upd_upd, take_snoc hc', List.map_append, List.map_append]
              rfl
          · rintro H2 rfl
            have et : z.cps.toList.take z.cps.size = z.cps.toList := by rw [← Array.length_toList, List.take_length]
            rw [et]
            refine ⟨D, z.cps.toList.map fun c => decide (c ∈ ("0123456789" : Str).cps.toList), rfl, SqL.of upd_same, _, rfl, ?_⟩
            have sD := same_new (o := .lst ((z.cps.toList.map fun c => decide (c ∈ ("0123456789" : Str).cps.toList)).map V.bl)) hD
            cases hd : (z.cps.toList.map fun c => decide (c ∈ ("0123456789" : Str).cps.toList)).all id with
            | false =>
              refine iteT ?_
              refine q false _ sD ⟨fun z => Bool.noConfusion z, fun hn => ?_⟩
              have := all_dig.mpr (form.mp hn).2.1
              rw [show TL.tl z = z.cps.toList from rfl] at this
              rw [hd] at this
              cases this
            | true =>
              have hdig : NumText.AllDigits (TL.tl z) := all_dig.mp hd
              refine iteF ?_
              refine ⟨_, rfl, rfl, _, rfl, ?_⟩
              cases h0 : decide (V.str x = V.str "0") with
              | true =>
                refine iteT (q true _ sD ⟨fun _ => form.mpr ⟨⟨by omega, by omega⟩, hdig, .inl (V.str.inj (of_decide_eq_true h0))⟩, fun _ => rfl⟩)
              | false =>
                refine iteF ?_
                have x0 : x ≠ "0" := fun e => of_decide_eq_false h0 (by rw [e])
                obtain ⟨c, r, hc⟩ : ∃ c r, TL.tl z = c :: r := by
                  cases e : TL.tl z with
                  | nil => have := TL.len_tl z; rw [e] at this; simp at this; omega
                  | cons c r => exact ⟨c, r, rfl⟩
                refine ⟨_, rfl, z, 0, c, rfl, rfl, sz_line zl, ?_, rfl, ?_⟩
                · show atI (TL.tl z) 0 = some c
                  rw [hc]
                  exact atI_nat (j := 0) rfl
                · show Q (.bl (!decide (V.str (⟨#[c]⟩ : Str) = V.str "0"))) _
                  refine q _ _ sD ?_
                  have eq : V.str (⟨#[c]⟩ : Str) = V.str "0" ↔ c = 48 := by
                    constructor
                    · intro h
                      have := congrArg TL.tl (V.str.inj h)
                      rw [show TL.tl "0" = [48] from by decide +kernel] at this
                      injection this
                    · rintro rfl
                      congr 1
                  by_cases hc48 : c = 48
                  · rw [decide_eq_true (eq.mpr hc48)]
                    refine ⟨fun z => Bool.noConfusion z, fun hn => ?_⟩
                    rcases (form.mp hn).2.2 with e | e
                    · exact absurd e x0
                    · rw [hc] at e
                      exact absurd (by rw [hc48]; rfl) e
                  · rw [decide_eq_false (fun h => hc48 (eq.mp h))]
                    refine ⟨fun _ => form.mpr ⟨⟨by omega, by omega⟩, hdig, .inr ?_⟩, fun _ => rfl⟩
                    rw [hc]
                    intro h
                    exact hc48 (Option.some.inj h)
        · rw [decide_eq_false h5]
          refine iteT ?_
          refine q false _ (Same.refl _) ⟨fun z => Bool.noConfusion z, fun hn => ?_⟩
          have := (form.mp hn).1.2
          omega
      · rw [decide_eq_false h1]
        refine iteF ?_
        refine ⟨_, rfl, iteT ?_⟩
        refine q false _ (Same.refl _) ⟨fun z => Bool.noConfusion z, fun hn => ?_⟩
        have := (form.mp hn).1.1
        omega
    · refine ⟨_, rfl, rfl, x, "-", rfl, rfl, _, rfl, ?_⟩
      rw [sw_minus]
      cases e : TL.tl x with
      | nil =>
        refine iteF ?_
        exact ⟨_, rfl, tail _ _ ⟨x, rfl, rfl, hx, .inr ⟨fun ds h => (by rw [e] at h; cases h), rfl⟩⟩⟩
      | cons c r =>
        show if decide (c = 45) = true then _ else _
        by_cases hc : c = 45
        · rw [decide_eq_true hc]
          refine iteT ?_
          subst hc
          exact ⟨_, rfl, 1, rfl, x, rfl, sz_line hx, tail _ _ ⟨_, rfl, rfl, Nat.le_trans (cutS_length _ _ _) hx, .inl (by rw [cut_tail e]; exact e)⟩⟩
        · rw [decide_eq_false hc]
          refine iteF ?_
          exact ⟨_, rfl, tail _ _ ⟨x, rfl, rfl, hx, .inr ⟨fun ds h => (by rw [e] at h; injection h with h _; exact hc h), rfl⟩⟩⟩
end
end My

set_option pp.maxSteps 1500
namespace My
open PySem PySem.Spec PyProof.Rows L2
def txtR (row : List Nat) : Str := rowT (row.map fun k : Nat => sI (k : Int))
theorem rowV_ints (row : List Nat) : rowV row = (row.map fun k : Nat => (k : Int)).map V.int := by
  unfold rowV
  rw [List.map_map]
  rfl
theorem txtR_ints (row : List Nat) : rowT ((row.map fun k : Nat => (k : Int)).map sI) = txtR row := by
  unfold txtR
  rw [List.map_map]
  rfl
section
variable {P : Program} {w : World} {K : PySem.W.Frag} {mg : Str → Option Value} {base : Heap}
def sp_row_text (K : PySem.W.Frag) (BR : Addr) : Sp := fun vs H Q E => ∃ (c x : V) (C : Cod) (r : Option (List PyData)), vs = [c, x] ∧ C.Ok ∧ Dp K H c C.dat ∧ Th K H x r ∧
  (∀ row, r = some (row.map (fun k : Nat => PyData.int (k : Int))) → C.Row row → ∀ H', Same H H' → Q (.str (txtR row)) H') ∧ (∀ i j, rowRes C r = some (i, j) → RowE BR H E i j)
theorem ok_row_text (T : Txt K mg) : FnOk P w K mg base (L2.CX P w) 7 T.f_row_text T.d_row_text ["coder", "row"] (sp_row_text K T.C_BadRow) := by
  refine T.F_row_text.okX sc_row_text (fun vs H Q E h => ?_) (fun cdv A outer s H vs Q E hr h => ?_)
  · obtain ⟨c, x, C, r, rfl, _⟩ := h
    rfl
  · obtain ⟨c, x, C, r, rfl, O, hc, hx, q1, q2⟩ := h
    refine ⟨_,
(pss_cons (ps_expr (pe_call (ok_need_coder T) (hr.mono (by decide)) (by rfl) T.g_need_coder T.F_need_coder.kp T.b_need_coder .nil pass0 (pa_cons (pv 0) pa_nil)))
      (pss_cons (ps_expr (pe_call (ok_need_row T) (hr.mono (by decide)) (by rfl) T.g_need_row T.F_need_row.kp T.b_need_row .nil (passes_call (takes_of rfl rfl rfl rfl) (fun _ _ _ _ h => h)) (pa_cons (pv 0) (pa_cons (pv 1) pa_nil))))
      (pss_one (ps_ret (pe_call (ok_spaced T) (hr.mono (by decide)) (by rfl) T.g__spaced T.F__spaced.kp T.b__spaced .nil pass0 (pa_cons (pv 1) pa_nil))))))
, ?_⟩
    refine ⟨c, rfl, c, _, rfl, hc, O.first, fun H1 s1 => ?_⟩
    refine ⟨c, rfl, x, rfl, c, x, C, r, rfl, dp_same s1 _ _ hc, hx.same s1, fun h0 H2 s2 => ?_, fun i j h0 => (q2 i j h0).same s1⟩
    obtain ⟨row, er, R⟩ := rowRes_row h0
    have s12 := s1.trans s2
    have hrow : Dp K H2 x (rowI row) := by
      have := hx.same s12
      rw [er] at this
      exact this
    obtain ⟨a, rfl, ha⟩ := row_at hrow
    rw [rowV_ints] at ha
    have hm := O.m2
    refine ⟨_, rfl, a, _, rfl, ha, by rw [List.length_map]; have := R.len; omega, fun n hn => ?_, fun H3 s3 => ?_⟩
    · obtain ⟨k, hk, rfl⟩ := List.mem_map.mp hn
      have := R.lt k hk
      omega
    · rw [txtR_ints]
      exact q1 row er R H3 (s12.trans s3)
theorem num_len {x : Str} (h : IsNum x) : x.length ≤ 6 := by
  obtain ⟨n, hn, rfl⟩ := h
  exact sI_len hn
def sp_read_row (K : PySem.W.Frag) (BR : Addr) : Sp := fun vs H Q E => ∃ (c x : V) (C : Cod) (r : Option Str), vs = [c, x] ∧ C.Ok ∧ Dp K H c C.dat ∧ ThS K H x r ∧ (∀ t, r = some t → t.length ≤ 900000) ∧
  (∀ t, r = some t → rdRes C.moves.length t = none → ∀ p H', Same H H' → H' p = some (.tup (rowV (rdRow C.moves.length t))) → Q (.ref p) H') ∧
  (r = none → RowE BR H E 0 0) ∧ (∀ t i j, r = some t → rdRes C.moves.length t = some (i, j) → RowE BR H E i j)
set_option maxHeartbeats 4000000 in
theorem ok_read_row (T : Txt K mg) : FnOk P w K mg base (L2.CX P w) 7 T.f_read_row T.d_read_row ["coder", "text"] (sp_read_row K T.C_BadRow) := by
  refine T.F_read_row.okX sc_read_row (fun vs H Q E h => ?_) (fun cdv A outer s H vs Q E hr h => ?_)
  · obtain ⟨c, x, C, r, rfl, _⟩ := h
    rfl
  · obtain ⟨c, x, C, r, rfl, O, hc, hx, hlen, q1, q2, q3⟩ := h
    have hm := O.m2
    refine ⟨_,
(pss_cons (ps_expr (pe_call (ok_need_coder T) (hr.mono (by decide)) (by rfl) T.g_need_coder T.F_need_coder.kp T.b_need_coder .nil pass0 (pa_cons (pv 0) pa_nil)))
      (pss_cons (ps_expr (pe_call (ok_need_text T) (hr.mono (by decide)) (by rfl) T.g__need_text T.F__need_text.kp T.b__need_text .nil (passes_call (takes_of rfl rfl rfl rfl) (fun _ _ _ _ h => h)) (pa_cons (pv 1) pa_nil)))
      (pss_cons (ps_if (pt_cmpR op_eq (pv 1) pe_str (nomark _)) (pss_one (ps_ret (pe_tup pa_nil))) pss_nil)
      (pss_cons (ps_set (i := 2) sc_read_row.nd rfl (Or.inl rfl) (pe_bm PySem.F.plainAttrs_str PySem.F.slot_str_split PySem.F.type_str_split mt_split (pv 1) (pa_cons pe_str pa_nil)))
      (pss_cons (ps_expr (pe_call (ok_need_no_empty_word T) (hr.mono (by decide)) (by rfl) T.g__need_no_empty_word T.F__need_no_empty_word.kp T.b__need_no_empty_word .nil (passes_call (takes_of rfl rfl rfl rfl) (fun _ _ _ _ h => h)) (pa_cons pe_int (pa_cons (pv 2) pa_nil))))
      (pss_cons (ps_for (passes_of rfl) rfl (pi_enum (by rfl) T.z_enumerate (pa_cons (pv 2) pa_nil)) (pg_tup (by rfl) (pgs_cons (pg_name (i := 3) sc_read_row.nd rfl (Or.inl rfl)) (pgs_cons (pg_name (i := 4) sc_read_row.nd rfl (Or.inl rfl)) pgs_nil))) (pss_one (ps_if (PW.pt (pw_or (pt_cmpR op_eq (pv 3) (pe_glob (v := .int 2000) (by rfl) T.g_MOST_CODES ⟨_, rfl⟩) (nomark _)) (pw_or (pt_not (pt_val (pe_call (ok_is_number T) (hr.mono (by decide)) (by rfl) T.g__is_number T.F__is_number.kp T.b__is_number .nil pass0 (pa_cons (pv 4) pa_nil)))) (pw_or1 (pt_not (pt_val (pe_call (ok_is_code T) (hr.mono (by decide)) (by rfl) T.g_is_code T.F_is_code.kp T.b_is_code .nil pass0 (pa_cons (pv 0) (pa_cons (pe_callTy call_int_str (by rfl) T.z_int (by decide +kernel) (pa_cons (pv 4) pa_nil)) pa_nil))))))))) (pss_one (ps_raise rfl (takes_of rfl rfl rfl rfl) (pmk_oex T.o_BadRow T.i_BadRow T.t_BadRow (oki_BadRow T) (hr.mono (by decide)) T.bi_BadRow .nil pass0 (by rfl) T.g_BadRow (pa_cons pe_int (pa_cons (pe_op op_add (pv 3) pe_int) pa_nil))))) pss_nil)))
      (pss_one (ps_ret (pe_callTy call_tuple_of (by rfl) T.z_tuple (by decide +kernel) (pa_cons (pe_lc (own := [("word", 4)]) rfl sc_read_row.nd (pi_list (pv 2)) (blkOk_by (own := [("word", 4)]) (N := ["coder", "text", "words", "index", "word"]) (sc := defScope s_read_row) (by decide +kernel)) (fun _ _ _ _ _ => (pg_name (i := 4) sc_read_row.nd rfl (Or.inl rfl))) (fun _ _ _ _ _ => pts_nil) (fun _ _ _ _ _ => (pe_callTy call_int_str (by rfl) T.z_int (by decide +kernel) (pa_cons (pv 4) pa_nil)))) pa_nil))))))))))
, ?_⟩
    refine ⟨c, rfl, c, _, rfl, hc, O.first, fun H1 s1 => ?_⟩
    refine ⟨x, rfl, x, r, rfl, hx.same s1, fun t ht => ?_, fun h0 => (q2 h0).same s1⟩
    subst ht
    obtain rfl : x = .str t := hx
    have hlen := hlen t rfl
    refine ⟨_, rfl, rfl, _, rfl, ?_⟩
    show if decide (V.str t = V.str "") = true then _ else _
    by_cases h0 : V.str t = V.str ""
    · rw [decide_eq_true h0]
      refine iteT ?_
      refine ⟨Nat.zero_le _, fun p hp => ?_⟩
      have e := V.str.inj h0
      subst e
      refine q1 _ rfl res_empty p _ (s1.trans (same_new hp)) ?_
      rw [row_at_empty]
      exact upd_same
    rw [decide_eq_false h0]
    refine iteF ?_
    -- words
    refine ⟨_, rfl, rfl, t, " ", rfl, rfl, by decide +kernel, by show t.length + 2 ≤ sizeLine; exact sz_line (by omega), fun L hL => ?_⟩
    have s2' := same_new (o := .lst ((Txt.split t " ").map V.str)) hL
    have s2 := s1.trans s2'
    have hL2 : (upd H1 L (.lst ((Txt.split t " ").map V.str))) L = some (.lst (strV (Txt.split t " "))) := upd_same
    generalize upd H1 L (.lst ((Txt.split t " ").map V.str)) = H2 at s2 hL2 s2'
    have hwl := split_count t
    have hwm : ∀ x ∈ Txt.split t " ", x.length ≤ 900001 := fun x hx => by
      have := lenS_mem hx
      rw [split_sum] at this
      omega
    have hres := res_row (n := C.moves.length) h0
    have hrow := row_at_words (n := C.moves.length) h0
    have hwe := res_word (n := C.moves.length) h0
    generalize Txt.split t " " = ws at hL2 hwl hwm hres hrow hwe
    refine ⟨_, rfl, 1, L, ws, rfl, SqL.of hL2, fun hne => ?_, fun he => (q3 t 1 0 rfl (hwe he)).same s2⟩
    have hres := hres hne
    -- the loop
    refine ⟨_, rfl, L, _, rfl, SqL.of hL2, ?_⟩
    refine for_it (walk_enum (K := K) (a := L) (xs := strV ws)) (fun i σ H' => ∃ y3 y4, σ = [some c, some (.str t), some (.ref L), y3, y4] ∧ Same H2 H' ∧ AllC C.moves.length ws i ∧ i ≤ 2000) ⟨none, none, rfl, Same.refl H2, fun k w hk => by omega, by omega⟩ ?_ ?_ ?_
    · rintro i σ H' _ ⟨_, _, _, s3, _⟩
      exact s3.seq (SqL.of hL2)
    · rintro i x σ H3 H3' hi ⟨y3, y4, rfl, s3, hall, hi2⟩ ⟨T', x', y', rfl, hT, rfl, hx, hy⟩
      cases Option.some.inj hx
      obtain ⟨w, hw, rfl⟩ := map_get hy
      have s4 := s3.trans (same_new (o := .tup [V.int (i : Nat), V.str w]) hT)
      refine ⟨T', _, rfl, upd_tup, rfl, _, _, rfl, _, _, rfl, rfl, ?_⟩
      generalize upd H3 T' (.tup [V.int (i : Nat), V.str w]) = H4 at s4
      have s24 := s2.trans s4
      have raise : ∀ H5, Same H H5 → rdRes C.moves.length t = some (1, (i : Int) + 1) → (([V.int 1, V.int ((i : Int) + 1)] : List V).length ≤ 1000 ∧ ∀ a', H5 a' = none →
            sp_init2 T.C_BadRow "row" "word" (.ref a' :: ([V.int 1, V.int ((i : Int) + 1)] ++ [])) (upd H5 a' (exo a' T.C_BadRow none)) (fun v H2 => v = .non ∧ ∃ (d : Addr) (fs : List (Str × V)), H2 a' = some (exo a' T.C_BadRow (some d)) ∧ H2 d = some (exd d fs) ∧ H5 d = none ∧
              E (.ref T.C_BadRow) (some d) (upd (del H2 a') d (.xd fs))) (fun _ _ _ => False)) := fun H5 s5 hb =>
          ⟨by show 2 ≤ 1000; decide, fun a' ha' => ⟨a', .int 1, .int ((i : Int) + 1), rfl, upd_same, fun d hd n => ⟨rfl, d, _, (upd_ne n.symm).trans upd_same, upd_same, (upd_ne n).symm.trans hd, rowE_mk ((q3 t 1 ((i : Int) + 1) rfl hb).same s5) ha' hd n⟩⟩⟩
      refine ⟨_, rfl, rfl, _, rfl, ?_⟩
      show if decide (V.int (i : Int) = V.int 2000) = true then _ else _
      by_cases e : i = 2000
      · have e1 : decide (V.int (i : Int) = V.int 2000) = true := by rw [e]; rfl
        rw [e1]
        refine iteT (iteT ?_)
        have hil : i < ws.length := (List.getElem?_eq_some_iff.mp hw).1
        refine ⟨_, rfl, _, _, rfl, rfl, raise H4 s24 ?_⟩
        subst e
        rw [hres, rdW_long hall hil]
        rfl
      · have e1 : decide (V.int (i : Int) = V.int 2000) = false := decide_eq_false fun z => by
          have := V.int.inj z
          omega
        rw [e1]
        refine iteF ?_
        refine ⟨_, rfl, w, rfl, Nat.le_trans (hwm w (get_mem hw)) (by decide), fun b H5 s5 hb => ⟨_, rfl, ?_⟩⟩
        have s25 := s24.trans s5
        cases b with
        | false =>
          have hno : ¬ IsNum w := fun h => by cases hb.mpr h
          have hC : isC C.moves.length w = false := isC_f.mpr fun ⟨k, hk, e⟩ => hno ⟨(k : Int), by omega, e⟩
          refine iteT (iteT ?_)
          exact ⟨_, rfl, _, _, rfl, rfl, raise H5 s25 (by rw [hres, rdW_bad hall hw hC (by omega)])⟩
        | true =>
          obtain ⟨n, hn, rfl⟩ := hb.mp rfl
          refine iteF ?_
          refine ⟨_, rfl, _, rfl, sI n, n, rfl, sI_int hn, by have := sI_len hn; omega, c, .int n, C, .int n, rfl, dp_same s25 _ _ hc, .int n, fun H6 s6 => ⟨_, rfl, ?_⟩⟩
          have s26 := s25.trans s6
          cases hg : btw (.int n) 0 ((C.moves.length : Int) - 1) with
          | true =>
            obtain ⟨ha, hb2⟩ := Bool.and_eq_true_iff.mp (show (decide (0 ≤ n) && decide (n ≤ (C.moves.length : Int) - 1)) = true from hg)
            have ha := of_decide_eq_true ha
            have hb2 := of_decide_eq_true hb2
            have hC : isC C.moves.length (sI n) = true := isC_iff.mpr ⟨n.toNat, by omega, by rw [Int.toNat_of_nonneg ha]⟩
            refine iteF ?_
            exact ⟨_, _, rfl, (s4.trans s5).trans s6, allC_succ hall hw hC, by omega⟩
          | false =>
            have hC : isC C.moves.length (sI n) = false := isC_f.mpr fun ⟨k, hk, e⟩ => by
              have := sI_inj hn (by omega) e
              subst this
              rw [btw_in (by omega) (by omega)] at hg
              cases hg
            refine iteT ?_
            exact ⟨_, rfl, _, _, rfl, rfl, raise H6 s26 (by rw [hres, rdW_bad hall hw hC (by omega)])⟩
    · rintro σ H3 ⟨y3, y4, rfl, s3, hall, h2000⟩
      have wl : (strV ws).length = ws.length := List.length_map ..
      rw [wl] at hall h2000
      have hok := rdW_ok hall h2000
      have s23 := s2.trans s3
      have hn : C.moves.length ≤ 1000 := by omega
      refine ⟨_, rfl, L, rfl, ⟨_, s3.seq (SqL.of hL2)⟩, fun D hD => ?_⟩
      refine lc_list (K := K) (a := L) (xs := strV ws) (fun i H' => H' = upd H3 D (.lst (rowV ((ws.take i).map (kOf C.moves.length))))) rfl ?_ ?_ ?_
      · rintro i H' _ rfl
        exact (same_new hD).seq (s3.seq (SqL.of hL2))
      · rintro i v H' hv rfl
        obtain ⟨w, hw, rfl⟩ := map_get hv
        have hi := (List.getElem?_eq_some_iff.mp hw).1
        obtain ⟨k1, k2⟩ := kOf_at hn (hall i w hi hw)
        refine ⟨rfl, yes_turn ?_⟩
        refine ⟨_, rfl, w, ((kOf C.moves.length w : Nat) : Int), rfl, ?_, ?_, rowV ((ws.take i).map (kOf C.moves.length)), upd_same, ?_, ?_⟩
        · have := sI_int (n := ((kOf C.moves.length w : Nat) : Int)) (by omega)
          rw [← k2] at this
          exact this
        · have := sI_len (n := ((kOf C.moves.length w : Nat) : Int)) (by omega)
          rw [← k2] at this
          omega
        · unfold rowV
          rw [List.length_map, List.length_map, List.length_take]
          exact lt_line (by omega)
        · rw [upd_upd, take_snoc hw, List.map_append]
          unfold rowV
          rw [List.map_append]
          rfl
      · rintro H4 rfl
        rw [wl, List.take_length]
        refine ⟨D, _, rfl, .inl ⟨SqL.of upd_same, fun p hp => ?_⟩⟩
        refine q1 t rfl (hres.trans hok) p _ ((s23.trans (same_new hD)).trans (same_new hp)) ?_
        rw [hrow]
        exact upd_same
end
end My

set_option pp.maxSteps 1500
namespace My
open PySem PySem.Spec PyProof.Rows L2
section
variable {P : Program} {w : World} {K : PySem.W.Frag} {mg : Str → Option Value} {base : Heap}
def sp_outcome (K : PySem.W.Frag) : Sp := fun vs H Q _ => ∃ (c x : V) (C : Cod) (r : Option Str), vs = [c, x] ∧ C.Ok ∧ Dp K H c C.dat ∧ ThS K H x r ∧ (∀ t, r = some t → t.length ≤ 900000) ∧
  ∀ v H', Same H H' → Dp K H' v (outT C.moves.length r) → Q v H'
theorem dp_two {K : PySem.W.Frag} {H : Hp} {p : Addr} {i j : Int} (h : H p = some (.tup [.int i, .int j])) : Dp K H (.ref p) (.tuple [.int i, .int j]) := .tup (.inl (.inl h)) (.cons (.int _) (.cons (.int _) .nil))
theorem ok_law_outcome (T : Txt K mg) : FnOk P w K mg base CX0 8 T.f__law_outcome T.d__law_outcome ["coder", "text"] (sp_outcome K) := by
  refine T.F__law_outcome.ok sc_law_outcome (fun vs H Q E h => ?_) (fun cdv A outer s H vs Q E hr h => ?_)
  · obtain ⟨c, x, C, r, rfl, _⟩ := h
    rfl
  · obtain ⟨c, x, C, r, rfl, O, hc, hx, hlen, q⟩ := h
    refine ⟨_,
(pss_cons (ps_set (i := 2) sc_law_outcome.nd rfl (Or.inl rfl) pe_str)
      (pss_cons (ps_try_as (i := 3) rfl rfl sc_law_outcome.nd rfl rfl ⟨by rfl, by decide, .inl T.g_BadRow⟩ takes0 (fun W pn xe tk po => (pss_one (ps_set (i := 2) sc_law_outcome.nd rfl (Or.inl rfl) (pe_lst (pa_cons (pe_callS (ok_read_row T) (hr.mono (by decide)) (by rfl) T.g_read_row T.F_read_row.kp T.b_read_row (fun σ => passAt tk σ) (pa_cons (pv 0) (pa_cons (pv 1) pa_nil))) pa_nil))))) (fun a oe cls d pn hz hf => (pss_one (ps_set (i := 2) sc_law_outcome.nd rfl (Or.inl rfl) (pe_tup (pa_cons (pe_xf T.x_BadRow T.n_BadRow_row hz hf (pv 3)) (pa_cons (pe_xf T.x_BadRow T.n_BadRow_word hz hf (pv 3)) pa_nil)))))))
      (pss_one (ps_ret (pv 2)))))
, ?_⟩
    refine ⟨c, rfl, x, rfl, c, x, C, r, rfl, O, hc, hx, hlen, fun t ht h0 p H1 s1 hp => ?_, fun h0 d H1 s1 hd => ?_, fun t i j ht h0 d H1 s1 hd => ?_⟩
    · refine ⟨by show 1 ≤ sizeLine; decide, fun L hL => ⟨_, rfl, q _ _ (s1.trans (same_new hL)) ?_⟩⟩
      subst ht
      rw [outT_ok h0]
      exact .lst (SqL.of upd_same) (.cons (dp_row (.inl (.inl (same_new hL _ _ hp)))) .nil)
    · refine ⟨true, T.e_BadRow, fun _ a ha => ?_, fun z => nomatch z⟩
      refine ⟨_, rfl, rfl, rfl, d, _, _, rfl, hd, rfl, _, rfl, rfl, rfl, d, _, _, rfl, hd, rfl, by show 2 ≤ sizeLine; decide, fun p hp => ⟨_, rfl, q _ _ (s1.trans (same_new hp)) ?_⟩⟩
      subst h0
      exact dp_two upd_same
    · refine ⟨true, T.e_BadRow, fun _ a ha => ?_, fun z => nomatch z⟩
      refine ⟨_, rfl, rfl, rfl, d, _, _, rfl, hd, rfl, _, rfl, rfl, rfl, d, _, _, rfl, hd, rfl, by show 2 ≤ sizeLine; decide, fun p hp => ⟨_, rfl, q _ _ (s1.trans (same_new hp)) ?_⟩⟩
      subst ht
      rw [outT_bad h0]
      exact dp_two upd_same
def writD (C : Cod) (r : Option (List PyData)) : PyData := match rowRes C r with
  | some (i, j) => .tuple [.int i, .int j]
  | none => .none
def sp_written (K : PySem.W.Frag) : Sp := fun vs H Q _ => ∃ (c x : V) (C : Cod) (r : Option (List PyData)), vs = [c, x] ∧ C.Ok ∧ Dp K H c C.dat ∧ Th K H x r ∧
  ∀ v H', Same H H' → Dp K H' v (writD C r) → Q v H'
theorem ok_law_written (T : Txt K mg) : FnOk P w K mg base CX0 8 T.f__law_written T.d__law_written ["coder", "row"] (sp_written K) := by
  refine T.F__law_written.ok sc_law_written (fun vs H Q E h => ?_) (fun cdv A outer s H vs Q E hr h => ?_)
  · obtain ⟨c, x, C, r, rfl, _⟩ := h
    rfl
  · obtain ⟨c, x, C, r, rfl, O, hc, hx, q⟩ := h
    refine ⟨_,
(pss_cons (ps_set (i := 2) sc_law_written.nd rfl (Or.inl rfl) pe_non)
      (pss_cons (ps_try_as (i := 3) rfl rfl sc_law_written.nd rfl rfl ⟨by rfl, by decide, .inl T.g_BadRow⟩ takes0 (fun W pn xe tk po => (pss_one (ps_expr (pe_callS (ok_row_text T) (hr.mono (by decide)) (by rfl) T.g_row_text T.F_row_text.kp T.b_row_text (fun σ => passAt tk σ) (pa_cons (pv 0) (pa_cons (pv 1) pa_nil)))))) (fun a oe cls d pn hz hf => (pss_one (ps_set (i := 2) sc_law_written.nd rfl (Or.inl rfl) (pe_tup (pa_cons (pe_xf T.x_BadRow T.n_BadRow_row hz hf (pv 3)) (pa_cons (pe_xf T.x_BadRow T.n_BadRow_word hz hf (pv 3)) pa_nil)))))))
      (pss_one (ps_ret (pv 2)))))
, ?_⟩
    refine ⟨c, rfl, x, rfl, c, x, C, r, rfl, O, hc, hx, fun row er R H1 s1 => ?_, fun i j h0 d H1 s1 hd => ?_⟩
    · refine ⟨_, rfl, q _ _ s1 ?_⟩
      unfold writD
      rw [row_ok er R]
      exact .non
    · refine ⟨true, T.e_BadRow, fun _ a ha => ?_, fun z => nomatch z⟩
      refine ⟨_, rfl, rfl, rfl, d, _, _, rfl, hd, rfl, _, rfl, rfl, rfl, d, _, _, rfl, hd, rfl, by show 2 ≤ sizeLine; decide, fun p hp => ⟨_, rfl, q _ _ (s1.trans (same_new hp)) ?_⟩⟩
      unfold writD
      rw [h0]
      exact dp_two upd_same
end
end My

set_option pp.maxSteps 1500
namespace My
open PySem PySem.Spec PyProof.Rows L2
def natI (xs : List Nat) : List Int := xs.map fun k : Nat => (k : Int)
section
variable {P : Program} {w : World} {K : PySem.W.Frag} {mg : Str → Option Value} {base : Heap}
def sp_due (K : PySem.W.Frag) : Sp := fun vs H Q _ => ∃ (c : V) (t : Str) (C : Cod), vs = [c, .str t] ∧ C.Ok ∧ Dp K H c C.dat ∧ t.length ≤ 900000 ∧
  ∀ v H', Same H H' → Dp K H' v (outT C.moves.length (some t)) → Q v H'
set_option maxHeartbeats 4000000 in
theorem ok_law_due (T : Txt K mg) : FnOk P w K mg base CX0 2 T.f__law_due T.d__law_due ["coder", "text"] (sp_due K) := by
  refine T.F__law_due.ok sc_law_due (fun vs H Q E h => ?_) (fun cdv A outer s H vs Q E hr h => ?_)
  · obtain ⟨c, t, C, rfl, _⟩ := h
    rfl
  · obtain ⟨c, t, C, rfl, O, hc, hlen, q⟩ := h
    have hm := O.m2
    have hn : C.moves.length ≤ 1000 := by omega
    refine ⟨_,
(pss_cons (ps_if (pt_cmpR op_eq (pv 1) pe_str (nomark _)) (pss_one (ps_ret (pe_lst (pa_cons (pe_tup pa_nil) pa_nil)))) pss_nil)
      (pss_cons (ps_set (i := 2) sc_law_due.nd rfl (Or.inl rfl) (pe_bm PySem.F.plainAttrs_str PySem.F.slot_str_split PySem.F.type_str_split mt_split (pv 1) (pa_cons pe_str pa_nil)))
      (pss_cons (ps_if (pt_cmpR op_in_seq pe_str (pv 2) (by with_unfolding_all rfl)) (pss_one (ps_ret (pe_tup (pa_cons pe_int (pa_cons pe_int pa_nil))))) pss_nil)
      (pss_cons (ps_set (i := 3) sc_law_due.nd rfl (Or.inr rfl) (pe_lc (own := [("code", 5)]) rfl sc_law_due.nd (pi_range1 (by rfl) T.z_range (pa_cons (pe_callB (call_len_seq) (by rfl) T.z_len (by decide +kernel) (pa_cons (pe_ix ix_tup (pv 0) pe_int (fun _ _ => rfl)) pa_nil)) pa_nil)) (blkOk_by (own := [("code", 5)]) (N := ["coder", "text", "words", "codes", "wrong", "code", "k", "word"]) (sc := defScope s_law_due) (by decide +kernel)) (fun _ _ _ _ _ => (pg_name (i := 5) sc_law_due.nd rfl (Or.inl rfl))) (fun _ _ _ _ _ => pts_nil) (fun _ _ _ _ _ => (pe_callTy call_str_int (by rfl) T.z_str (by decide +kernel) (pa_cons (pv 5) pa_nil)))))
      (pss_cons (ps_setLc (i := 4) (own := [("k", 6), ("word", 7)]) rfl sc_law_due.nd rfl rfl (sw_true rfl rfl rfl (by decide +kernel)) (pi_enum (by rfl) T.z_enumerate (pa_cons (pv 2) pa_nil)) (blkOk_by (own := [("k", 6), ("word", 7)]) (N := ["coder", "text", "words", "codes", "wrong", "code", "k", "word"]) (sc := defScope s_law_due) (by decide +kernel)) (fun _ _ _ _ _ => (My.pg_tupK (K := K) (n := 2) rfl (pgs_cons (pg_name (i := 6) sc_law_due.nd rfl (Or.inl rfl)) (pgs_cons (pg_name (i := 7) sc_law_due.nd rfl (Or.inl rfl)) pgs_nil)))) (fun _ _ _ _ _ => pts_one (pt_cmpR (My.op_notIn_seqK (K := K)) (pv 7) (pv 3) (by with_unfolding_all rfl))) (fun _ _ _ _ _ => (pv 6)))
      (pss_cons (ps_if (PW.pt (pw_and (pt_cmpR (op_neD hr.units) (pv 4) (pe_lst pa_nil) (nomark _)) (pw_and1 (pt_cmpR op_lt (pe_ix ix_list (pv 4) pe_int (fun _ _ => rfl)) pe_int (nomark _))))) (pss_one (ps_ret (pe_tup (pa_cons pe_int (pa_cons (pe_op op_add (pe_ix ix_list (pv 4) pe_int (fun _ _ => rfl)) pe_int) pa_nil))))) pss_nil)
      (pss_one (ps_ret (pe_ifExp (pt_cmpR op_gt (pe_callB (call_len_seq) (by rfl) T.z_len (by decide +kernel) (pa_cons (pv 2) pa_nil)) pe_int (nomark _)) (pe_tup (pa_cons pe_int (pa_cons pe_int pa_nil))) (pe_lst (pa_cons (pe_callTy call_tuple_of (by rfl) T.z_tuple (by decide +kernel) (pa_cons (pe_lc (own := [("word", 7)]) rfl sc_law_due.nd (pi_list (pv 2)) (blkOk_by (own := [("word", 7)]) (N := ["coder", "text", "words", "codes", "wrong", "code", "k", "word"]) (sc := defScope s_law_due) (by decide +kernel)) (fun _ _ _ _ _ => (pg_name (i := 7) sc_law_due.nd rfl (Or.inl rfl))) (fun _ _ _ _ _ => pts_nil) (fun _ _ _ _ _ => (My.pe_bmK (K := K) PySem.F.plainAttrs_list PySem.F.slot_list_index PySem.F.type_list_index (My.mt_indexK (K := K)) (pv 3) (pa_cons (pv 7) pa_nil)))) pa_nil)) pa_nil)))))))))))
, ?_⟩
    refine ⟨_, rfl, rfl, _, rfl, ?_⟩
    show if decide (V.str t = V.str "") = true then _ else _
    by_cases h0 : V.str t = V.str ""
    · rw [decide_eq_true h0]
      refine iteT ?_
      refine ⟨Nat.zero_le _, fun p hp => ⟨by show 1 ≤ sizeLine; decide, fun L hL => q _ _ ((same_new hp).trans (same_new hL)) ?_⟩⟩
      have e := V.str.inj h0
      subst e
      rw [outT_ok res_empty, row_at_empty]
      exact .lst (SqL.of upd_same) (.cons (dp_row (.inl (.inl (same_new hL _ _ upd_same)))) .nil)
    rw [decide_eq_false h0]
    refine iteF ?_
    refine ⟨_, rfl, rfl, t, " ", rfl, rfl, by decide +kernel, by show t.length + 2 ≤ sizeLine; exact sz_line (by omega), fun L hL => ?_⟩
    have s1 := same_new (o := .lst ((Txt.split t " ").map V.str)) hL
    have hL1 : (upd H L (.lst ((Txt.split t " ").map V.str))) L = some (.lst (strV (Txt.split t " "))) := upd_same
    generalize upd H L (.lst ((Txt.split t " ").map V.str)) = H1 at s1 hL1
    have hwl := split_count t
    have hres := res_row (n := C.moves.length) h0
    have hrow := row_at_words (n := C.moves.length) h0
    have hwe := res_word (n := C.moves.length) h0
    generalize Txt.split t " " = ws at hL1 hwl hres hrow hwe
    have wl : (strV ws).length = ws.length := List.length_map ..
    refine ⟨_, rfl, L, _, rfl, .inl (SqL.of hL1), rfl, flat_strs ws, _, rfl, ?_⟩
    show if inV (.str "") (strV ws) = true then _ else _
    cases he : inV (.str "") (strV ws) with
    | true =>
      refine iteT ?_
      refine ⟨by show 2 ≤ sizeLine; decide, fun p hp => q _ _ (s1.trans (same_new hp)) ?_⟩
      rw [outT_bad (hwe he)]
      exact dp_two upd_same
    | false =>
    refine iteF ?_
    have hres := hres he
    obtain ⟨a, s, m, ms, rfl, ha, hs, hmv, hmd⟩ := cod_at (dp_same s1 _ _ hc)
    have hml : ms.length = C.moves.length := by rw [dpAll_len hmd, List.length_map]
    -- codes
    refine ⟨_, rfl, a, _, 3, .ref m, rfl, rfl, ha, atI_nat (j := 3) rfl, m, ms, rfl, .inr hmv, _, rfl, by omega, by omega, fun S hS => ?_⟩
    refine lc_range (lo := 0) (n := (ms.length : Int).toNat) (fun i H' => H' = upd H1 S (.lst (strV ((codW C.moves.length).take i)))) rfl ?_ ?_
    · rintro i H' hi rfl
      have hi : i < C.moves.length := by omega
      refine ⟨rfl, yes_turn ?_⟩
      refine ⟨_, rfl, _, rfl, log_ok (by omega), strV ((codW C.moves.length).take i), upd_same, ?_, ?_⟩
      · unfold strV
        rw [List.length_map, List.length_take]
        exact lt_line (by omega)
      · rw [upd_upd, strs_take (codW_at hi), Int.zero_add]
        rfl
    rintro H2 rfl
    have s2' := same_new (o := .lst (strV ((codW C.moves.length).take (ms.length : Int).toNat))) hS
    have hS2 : (upd H1 S (.lst (strV ((codW C.moves.length).take (ms.length : Int).toNat)))) S = some (.lst (strV (codW C.moves.length))) := by
      rw [upd_same, List.take_of_length_le (by rw [codW_len]; omega)]
    generalize upd H1 S (.lst (strV ((codW C.moves.length).take (ms.length : Int).toNat))) = H2 at s2' hS2
    have s2 := s1.trans s2'
    have hL2 := s2' _ _ hL1
    -- wrong
    refine ⟨_, rfl, L, _, rfl, SqL.of hL2, fun W hW => ?_⟩
    refine lc_it (walk_enum (K := K) (a := L) (xs := strV ws)) (fun i H' => H' W = some (.lst ((natI (wrongT C.moves.length ws i)).map V.int)) ∧ Same H2 H') ⟨upd_same, same_new hW⟩ ?_ ?_ ?_
    · rintro i H' _ ⟨_, s3⟩
      exact s3.seq (SqL.of hL2)
    · rintro i x H3 H3' hi ⟨hW3, s3⟩ ⟨T', x', y', rfl, hT, rfl, hx, hy⟩
      cases Option.some.inj hx
      obtain ⟨w, hw, rfl⟩ := map_get hy
      have s4' := same_new (o := .tup [V.int (i : Nat), V.str w]) hT
      have s4 := s3.trans s4'
      have hW4 := s4' _ _ hW3
      refine ⟨T', _, rfl, upd_tup, rfl, _, _, rfl, _, _, rfl, rfl, ?_⟩
      generalize upd H3 T' (.tup [V.int (i : Nat), V.str w]) = H4 at s4 hW4
      refine ⟨rfl, _, rfl, _, rfl, S, _, rfl, .inl (SqL.of (s4 _ _ hS2)), rfl, flat_strs _, _, rfl, ?_⟩
      have hil : i < ws.length := (List.getElem?_eq_some_iff.mp hw).1
      have hsz : ((natI (wrongT C.moves.length ws i)).map V.int).length < sizeLine := by
        unfold natI wrongT
        rw [List.length_map, List.length_map]
        have := List.length_filter_le (fun k => !isC C.moves.length (ws.getD k Str.empty)) (List.range i)
        rw [List.length_range] at this
        exact lt_line (by omega)
      have hnx := wrongT_succ (n := C.moves.length) hw
      show if (!isC C.moves.length w) = true then _ else _
      cases hc : isC C.moves.length w with
      | true =>
        rw [hc, if_pos rfl, List.append_nil] at hnx
        refine iteF ⟨?_, s4⟩
        rw [hnx]
        exact hW4
      | false =>
        rw [hc, if_neg (by decide)] at hnx
        refine iteT ?_
        refine ⟨_, rfl, _, hW4, hsz, ?_, fun b o hb => ?_⟩
        · rw [upd_same, hnx]
          unfold natI
          rw [List.map_append, List.map_append]
          rfl
        · rw [upd_ne (ne_of_none hb hW)]
          exact s4 b o hb
    rintro H3 ⟨hW3, s3'⟩
    rw [wl] at hW3
    have s3 := s2.trans s3'
    have hL3 := s3' _ _ hL2
    have hS3 := s3' _ _ hS2
    dsimp only
    refine st_tail (fun σ H' => σ = [some (.ref a), some (.str t), some (.ref L), some (.ref S), some (.ref W), none, none, none] ∧ Same H3 H' ∧ rdW C.moves.length ws = if 2000 < ws.length then some (1, 2001) else none) ?_ fun tail => ?_
    · rintro σ H4 ⟨rfl, s4', hrd⟩
      have s4 := s3.trans s4'
      have hL4 := s4' _ _ hL3
      have hS4 := s4' _ _ hS3
      refine ⟨_, rfl, L, _, rfl, .inl (SqL.of hL4), _, _, rfl, rfl, _, rfl, ?_⟩
      by_cases hl : 2000 < ws.length
      · rw [decide_eq_true (show (2000 : Int) < ((strV ws).length : Int) by rw [wl]; omega)]
        refine iteT ?_
        refine ⟨by show 2 ≤ sizeLine; decide, fun p hp => q _ _ (s4.trans (same_new hp)) ?_⟩
        rw [if_pos hl] at hrd
        rw [outT_bad (hres.trans hrd)]
        exact dp_two upd_same
      · rw [decide_eq_false (show ¬ (2000 : Int) < ((strV ws).length : Int) by rw [wl]; omega)]
        refine iteF ?_
        rw [if_neg hl] at hrd
        obtain ⟨_, hall⟩ := rdW_none hrd
        refine ⟨_, rfl, L, rfl, ⟨_, SqL.of hL4⟩, fun D hD => ?_⟩
        refine lc_list (K := K) (a := L) (xs := strV ws) (fun i H' => H' = upd H4 D (.lst (rowV ((ws.take i).map (kOf C.moves.length))))) rfl ?_ ?_ ?_
        · rintro i H' _ rfl
          exact (same_new hD).seq (SqL.of hL4)
        · rintro i v H' hv rfl
          obtain ⟨w, hw, rfl⟩ := map_get hv
          have hi := (List.getElem?_eq_some_iff.mp hw).1
          obtain ⟨k1, k2⟩ := kOf_at hn (hall w (get_mem hw))
          refine ⟨rfl, yes_turn ?_⟩
          refine ⟨_, rfl, .inl ⟨rfl, _, SqL.of (same_new hD _ _ hS4)⟩, _, rfl, S, strV (codW C.moves.length), .str w, kOf C.moves.length w, .str w, rfl, rfl, SqL.of (same_new hD _ _ hS4), rfl, flat_strs _, ?_, eqV_str.mpr rfl, fun m z hm hz => ?_, rowV ((ws.take i).map (kOf C.moves.length)), upd_same, ?_, ?_⟩
          · refine get_map ?_
            rw [codW_at k1, ← k2]
          · obtain ⟨u, hu, rfl⟩ := map_get hz
            have hmn : m < C.moves.length := by omega
            rw [codW_at hmn] at hu
            cases hu
            cases e : eqV (.str (sI (m : Int))) (.str w) with
            | false => rfl
            | true =>
              have := eqV_str.mp e
              rw [k2] at this
              have := code_inj (by omega) (by omega) this
              omega
          · unfold rowV
            rw [List.length_map, List.length_map, List.length_take]
            exact lt_line (by omega)
          · rw [upd_upd, take_snoc hw, List.map_append]
            unfold rowV
            rw [List.map_append]
            rfl
        · rintro H5 rfl
          rw [wl, List.take_length]
          refine ⟨D, _, rfl, .inl ⟨SqL.of upd_same, fun p hp => ⟨by show 1 ≤ sizeLine; decide, fun M hM => q _ _ (((s4.trans (same_new hD)).trans (same_new hp)).trans (same_new hM)) ?_⟩⟩⟩
          rw [outT_ok (hres.trans hrd), hrow]
          exact .lst (SqL.of upd_same) (.cons (dp_row (.inl (.inl (same_new hM _ _ upd_same)))) .nil)
    -- the first one
    refine ⟨_, rfl, Nat.zero_le _, fun p hp => ?_⟩
    have s4' := same_new (o := .lst []) hp
    have s4 := s3.trans s4'
    have hW4 := s4' _ _ hW3
    refine ⟨.list (pis (natI (wrongT C.moves.length ws ws.length))), .list [], .lst (SqL.of hW4) (dp_ints _), .lst (SqL.of upd_same) .nil, shaped_ints _, by rfl, _, rfl, ?_⟩
    rw [eqv_nil]
    generalize upd H3 p (.lst []) = H4 at s4' s4 hW4
    have hdef : rdW C.moves.length ws = match wrongT C.moves.length ws ws.length with
      | k :: _ => if k < 2000 then some (1, (k : Int) + 1) else some (1, 2001)
      | [] => if 2000 < ws.length then some (1, 2001) else none := rfl
    cases hW : wrongT C.moves.length ws ws.length with
    | nil =>
      rw [hW] at hdef
      refine iteF ?_
      exact tail _ _ ⟨rfl, s4', hdef⟩
    | cons k r =>
      rw [hW] at hdef hW4
      have hk : k < ws.length := by
        have : k ∈ wrongT C.moves.length ws ws.length := by rw [hW]; exact List.mem_cons_self
        exact List.mem_range.mp (List.mem_filter.mp this).1
      refine iteT ?_
      refine ⟨_, rfl, W, _, 0, .int (k : Int), rfl, rfl, SqL.of hW4, atI_nat (j := 0) rfl, _, _, rfl, rfl, _, rfl, ?_⟩
      by_cases h2 : k < 2000
      · rw [decide_eq_true (show (k : Int) < 2000 by omega)]
        refine iteT ?_
        refine ⟨_, rfl, W, _, 0, .int (k : Int), rfl, rfl, SqL.of hW4, atI_nat (j := 0) rfl, _, _, rfl, rfl, by show 2 ≤ sizeLine; decide, fun p hp => q _ _ (s4.trans (same_new hp)) ?_⟩
        replace hdef : rdW C.moves.length ws = if k < 2000 then some (1, (k : Int) + 1) else some (1, 2001) := hdef
        rw [if_pos h2] at hdef
        rw [outT_bad (hres.trans hdef)]
        exact dp_two upd_same
      · rw [decide_eq_false (show ¬ (k : Int) < 2000 by omega)]
        refine iteF ?_
        replace hdef : rdW C.moves.length ws = if k < 2000 then some (1, (k : Int) + 1) else some (1, 2001) := hdef
        rw [if_neg h2] at hdef
        exact tail _ _ ⟨rfl, s4', by rw [hdef, if_pos (by omega)]⟩
end
end My

set_option pp.maxSteps 1500
namespace My
open PySem PySem.Spec PyProof.Rows L2
theorem atI_lt {α : Type} {xs : List α} {g : Int} (h0 : 0 ≤ g) (h1 : g < xs.length) : ∃ v, atI xs g = some v ∧ v ∈ xs := by
  have hg : g.toNat < xs.length := by omega
  have h := atI_nat (j := g.toNat) (List.getElem?_eq_getElem hg)
  rw [show ((g.toNat : Nat) : Int) = g by omega] at h
  exact ⟨_, h, List.getElem_mem hg⟩
theorem signs_at {g : Int} (h0 : 0 ≤ g) (h1 : g < 15) : ∃ c, atI ("0123456789 \n-+a" : Str).cps.toList g = some c := by
  have e : ("0123456789 \n-+a" : Str).cps.toList.length = 15 := by decide +kernel
  obtain ⟨v, hv, _⟩ := atI_lt (xs := ("0123456789 \n-+a" : Str).cps.toList) h0 (by rw [e]; exact h1)
  exact ⟨v, hv⟩
section
variable {P : Program} {w : World} {K : PySem.W.Frag} {mg : Str → Option Value} {base : Heap}
def sp_bent : Sp := fun vs H Q _ => ∃ (m c l : Addr) (k : Nat) (t : Str), vs = [.ref m, .str t] ∧ t.length ≤ 100000 ∧ Dr H m c l (k + 6) ∧
  ∀ (u : Str) l' H', u.length ≤ 2 * t.length + 5100 → Kp m l H l' H' → Dr H' m c l' k → Q (.str u) H'
set_option maxHeartbeats 4000000 in
theorem ok_law_bent (T : Txt K mg) : FnOk P w K mg base CX0 3 T.f__law_bent T.d__law_bent ["m", "text"] sp_bent := by
  refine T.F__law_bent.ok sc_law_bent (fun vs H Q E h => ?_) (fun cdv A outer s H vs Q E hr h => ?_)
  · obtain ⟨m, c, l, k, t, rfl, _⟩ := h
    rfl
  · obtain ⟨m, c, l, k, t, rfl, hlen, D0, q⟩ := h
    have q : ∀ (u : Str) (n : Nat) l' H', u.length ≤ 2 * t.length + 5100 → Kp m l H l' H' → Dr H' m c l' (k + n) → Q (.str u) H' := fun u n l' H' h kp D => q u l' H' h kp (D.less (by omega))
    refine ⟨_,
(pss_cons (ps_set (i := 2) sc_law_bent.nd rfl (Or.inl rfl) (pe_call (ok_law_next T) (hr.mono (by decide)) (by rfl) T.g__law_next T.F__law_next.kp T.b__law_next .nil pass0 (pa_cons (pv 0) (pa_cons pe_int pa_nil))))
      (pss_cons (ps_par (i := 3) (j := 4) (by rfl) sc_law_bent.nd rfl rfl (by decide) rfl rfl (pa_cons (pe_call (ok_law_next T) (hr.mono (by decide)) (by rfl) T.g__law_next T.F__law_next.kp T.b__law_next .nil pass0 (pa_cons (pv 0) (pa_cons (pe_op op_add (pe_callB call_len_str (by rfl) T.z_len (by decide +kernel) (pa_cons (pv 1) pa_nil)) pe_int) pa_nil))) (pa_cons (pe_ix ix_str pe_str (pe_call (ok_law_next T) (hr.mono (by decide)) (by rfl) T.g__law_next T.F__law_next.kp T.b__law_next .nil pass0 (pa_cons (pv 0) (pa_cons pe_int pa_nil))) (fun _ _ => rfl)) pa_nil)) (by rfl))
      (pss_cons (ps_if (pt_cmpR op_lt (pv 2) pe_int (nomark _)) (pss_cons (ps_set (i := 5) sc_law_bent.nd rfl (Or.inl rfl) (pe_ifExp (pt_cmpR op_eq (pe_call (ok_law_next T) (hr.mono (by decide)) (by rfl) T.g__law_next T.F__law_next.kp T.b__law_next .nil pass0 (pa_cons (pv 0) (pa_cons pe_int pa_nil))) pe_int (nomark _)) (pe_slice sl_str (pv 1) (po_some (pv 3)) po_none) (pe_slice sl_str (pv 1) (po_some (pe_op op_add (pv 3) pe_int)) po_none)))
      (pss_one (ps_ret (pe_op op_add_str (pe_op op_add_str (pe_slice sl_str (pv 1) po_none (po_some (pv 3))) (pe_ifExp (pt_cmpR op_eq (pv 2) pe_int (nomark _)) (pv 4) pe_str)) (pv 5))))) pss_nil)
      (pss_cons (ps_set (i := 6) sc_law_bent.nd rfl (Or.inl rfl) (pe_bm PySem.F.plainAttrs_str PySem.F.slot_str_split PySem.F.type_str_split mt_split (pv 1) (pa_cons pe_str pa_nil)))
      (pss_cons (ps_set (i := 7) sc_law_bent.nd rfl (Or.inl rfl) (pe_call (ok_law_next T) (hr.mono (by decide)) (by rfl) T.g__law_next T.F__law_next.kp T.b__law_next .nil pass0 (pa_cons (pv 0) (pa_cons (pe_callB (call_len_seq) (by rfl) T.z_len (by decide +kernel) (pa_cons (pv 6) pa_nil)) pa_nil))))
      (pss_cons (ps_set (i := 8) sc_law_bent.nd rfl (Or.inl rfl) (pe_lst (pa_cons pe_str (pa_cons pe_str (pa_cons pe_str (pa_cons pe_str (pa_cons pe_str (pa_cons pe_str (pa_cons (pe_op My.op_repS pe_str pe_int) (pa_cons pe_str (pa_cons pe_str (pa_cons pe_str (pa_cons pe_str (pa_cons pe_str pa_nil))))))))))))))
      (pss_one (ps_ret (pe_bm PySem.F.plainAttrs_str PySem.F.slot_str_join PySem.F.type_str_join mt_join pe_str (pa_cons (pe_op op_cat (pe_op op_cat (pe_slice sl_list (pv 6) po_none (po_some (pv 7))) (pe_lst (pa_cons (pe_ix ix_list (pv 8) (pe_call (ok_law_next T) (hr.mono (by decide)) (by rfl) T.g__law_next T.F__law_next.kp T.b__law_next .nil pass0 (pa_cons (pv 0) (pa_cons pe_int pa_nil))) (fun _ _ => rfl)) pa_nil))) (pe_slice sl_list (pv 6) (po_some (pe_op op_add (pv 7) (pe_ifExp (pt_cmpR op_eq (pv 2) pe_int (nomark _)) pe_int pe_int))) po_none)) pa_nil))))))))))
, ?_⟩
    refine ⟨_, rfl, m, c, l, k + 5, 4, rfl, by decide, by decide, D0, fun way l1 H1 w0 w1 kp1 D1 => ?_⟩
    refine ⟨_, rfl, _, rfl, t, rfl, sz_line (by omega), _, _, rfl, rfl, m, c, l1, k + 4, _, rfl, by omega, by omega, D1, fun place l2 H2 p0 p1 kp2 D2 => ?_⟩
    refine ⟨_, rfl, m, c, l2, k + 3, 15, rfl, by decide, by decide, D2, fun g l3 H3 g0 g1 kp3 D3 => ?_⟩
    obtain ⟨ch, hch⟩ := signs_at g0 g1
    refine ⟨"0123456789 \n-+a", g, ch, rfl, rfl, by decide +kernel, hch, _, _, rfl, ?_⟩
    have kp3 := (kp1.trans kp2).trans kp3
    refine ⟨_, rfl, _, _, rfl, rfl, _, rfl, ?_⟩
    have hsg : (⟨#[ch]⟩ : Str).length = 1 := rfl
    refine ite2 (fun hw => ?_) (fun hw => ?_)
    · dsimp only
      refine st_tail (fun σ H' => ∃ (u : Str) (l' : Addr), σ = [some (.ref m), some (.str t), some (.int way), some (.int place), some (.str ⟨#[ch]⟩), some (.str u), none, none, none] ∧ u.length ≤ t.length ∧ Kp m l H l' H' ∧ Dr H' m c l' (k + 2)) ?_ fun tail => ?_
      · rintro σ H4 ⟨u, l4, rfl, hu, kp4, D4⟩
        have hcut := cutS_length t none (some place)
        have fin : ∀ (x : Str), x.length ≤ 1 → Q (.str ((cutS t none (some place) ++ x) ++ u)) H4 := fun x hx => by
          refine q _ 2 l4 H4 ?_ kp4 D4
          rw [strLen_append, strLen_append]
          omega
        refine ⟨_, rfl, _, rfl, place, rfl, t, rfl, sz_line (by omega), _, rfl, rfl, _, rfl, ?_⟩
        refine ite2 (fun hw0 => ?_) (fun hw0 => ?_)
        · refine ⟨_, rfl, _, _, rfl, rfl, sz_line (by rw [hsg]; omega), _, rfl, _, _, rfl, rfl, sz_line (by rw [strLen_append, hsg]; omega), fin _ (Nat.le_refl _)⟩
        · have e0 : ("" : Str).length = 0 := rfl
          refine ⟨_, _, rfl, rfl, sz_line (by rw [e0]; omega), _, rfl, _, _, rfl, rfl, sz_line (by rw [strLen_append, e0]; omega), fin _ (by rw [e0]; omega)⟩
      · refine ⟨_, rfl, m, c, l3, k + 2, 2, rfl, by decide, by decide, D3, fun h l4 H4 h0 h1 kp4 D4 => ?_⟩
        have kp4 := kp3.trans kp4
        refine ⟨rfl, _, rfl, ?_⟩
        refine ite2 (fun e => ?_) (fun e => ?_)
        · exact ⟨_, rfl, _, rfl, place, rfl, t, rfl, sz_line (by omega), tail _ _ ⟨_, l4, rfl, cutS_length t _ _, kp4, D4⟩⟩
        · exact ⟨_, rfl, _, rfl, _, _, rfl, rfl, _, rfl, t, rfl, sz_line (by omega), tail _ _ ⟨_, l4, rfl, cutS_length t _ _, kp4, D4⟩⟩
    -- words
    refine ⟨_, rfl, rfl, t, " ", rfl, rfl, by decide +kernel, by show t.length + 2 ≤ sizeLine; exact sz_line (by omega), fun L hL => ?_⟩
    have oL := own_mk (xs := (Txt.split t " ").map V.str) D3 hL
    have D4 := D3.new (o := .lst ((Txt.split t " ").map V.str)) hL
    have kp4 := kp3.trans (Kp.new (o := .lst ((Txt.split t " ").map V.str)) hL)
    generalize upd H3 L (.lst ((Txt.split t " ").map V.str)) = H4 at oL D4 kp4
    have hsum := split_sum t
    have hcnt := split_count t
    have hne := split_ne t
    generalize Txt.split t " " = ws at oL hsum hcnt hne
    have h1 : 1 ≤ ws.length := List.length_pos_iff.mpr hne
    have wl : (ws.map V.str).length = ws.length := List.length_map ..
    refine ⟨_, rfl, _, rfl, L, _, rfl, .inl (SqL.of oL.st), m, c, l3, k + 2, _, rfl, by rw [wl]; omega, by rw [wl]; omega, D4, fun at' l5 H5 a0 a1 kp5 D5 => ?_⟩
    rw [wl] at a1
    have oL := oL.kp kp5
    have kp5 := kp4.trans kp5
    refine ⟨"9", 5000, rfl, rfl, by decide, by decide, by decide, fun nines hnn => ⟨by show 12 ≤ sizeLine; decide, fun S hS => ?_⟩⟩
    have oS := own_mk (xs := [V.str "", V.str "-0", V.str "00", V.str "01", V.str "16", V.str "15", V.str nines, V.str "1", V.str "-1", V.str "True", V.str "99999", V.str "100000"]) D5 hS
    have sS := same_new (o := .lst [V.str "", V.str "-0", V.str "00", V.str "01", V.str "16", V.str "15", V.str nines, V.str "1", V.str "-1", V.str "True", V.str "99999", V.str "100000"]) hS
    have oL := oL.same sS
    have D6 := D5.new (o := .lst [V.str "", V.str "-0", V.str "00", V.str "01", V.str "16", V.str "15", V.str nines, V.str "1", V.str "-1", V.str "True", V.str "99999", V.str "100000"]) hS
    have kp6 := kp5.trans (Kp.new (o := .lst [V.str "", V.str "-0", V.str "00", V.str "01", V.str "16", V.str "15", V.str nines, V.str "1", V.str "-1", V.str "True", V.str "99999", V.str "100000"]) hS)
    have hsome : ∀ v ∈ [V.str "", V.str "-0", V.str "00", V.str "01", V.str "16", V.str "15", V.str nines, V.str "1", V.str "-1", V.str "True", V.str "99999", V.str "100000"], ∃ x : Str, v = .str x ∧ x.length ≤ 5000 := fun v hv => by
      have lit : ∀ x ∈ (["", "-0", "00", "01", "16", "15", "1", "-1", "True", "99999", "100000"] : List Str), x.length ≤ 5000 := by decide +kernel
      simp only [List.mem_cons, List.not_mem_nil, or_false] at hv
      rcases hv with e | e | e | e | e | e | e | e | e | e | e | e
      all_goals first
        | exact ⟨nines, e, by rw [hnn]; decide⟩
        | exact ⟨_, e, lit _ (by simp)⟩
    have hsl : ([V.str "", V.str "-0", V.str "00", V.str "01", V.str "16", V.str "15", V.str nines, V.str "1", V.str "-1", V.str "True", V.str "99999", V.str "100000"] : List V).length = 12 := rfl
    generalize [V.str "", V.str "-0", V.str "00", V.str "01", V.str "16", V.str "15", V.str nines, V.str "1", V.str "-1", V.str "True", V.str "99999", V.str "100000"] = some12 at oS oL D6 kp6 hsome hsl
    generalize upd H5 S (.lst some12) = H6 at oS oL D6 kp6
    obtain ⟨j, rfl⟩ : ∃ j : Nat, at' = (j : Int) := ⟨at'.toNat, by omega⟩
    have ej : cutV (ws.map V.str) none (some (j : Int)) = (ws.take j).map V.str := by
      rw [cut_take (by rw [wl]; omega), List.map_take]
    refine ⟨rfl, _, rfl, _, rfl, (j : Int), rfl, L, _, rfl, SqL.of oL.st, fun A hA => ?_⟩
    rw [ej]
    have oA := own_mk (xs := (ws.take j).map V.str) D6 hA
    have sA := same_new (o := .lst ((ws.take j).map V.str)) hA
    have oL := oL.same sA
    have oS := oS.same sA
    have D7 := D6.new (o := .lst ((ws.take j).map V.str)) hA
    have kp7 := kp6.trans (Kp.new (o := .lst ((ws.take j).map V.str)) hA)
    generalize upd H6 A (.lst ((ws.take j).map V.str)) = H7 at oA oL oS D7 kp7
    refine ⟨_, rfl, _, rfl, m, c, l5, k + 1, 12, rfl, by decide, by decide, D7, fun g2 l8 H8 g20 g21 kp8 D8 => ?_⟩
    obtain ⟨v, hat, hmem⟩ := atI_lt (xs := some12) g20 (by rw [hsl]; exact g21)
    obtain ⟨x, rfl, hx⟩ := hsome v hmem
    have oA := oA.kp kp8
    have oL := oL.kp kp8
    have oS := oS.kp kp8
    have kp8 := kp7.trans kp8
    refine ⟨S, _, g2, .str x, rfl, rfl, SqL.of oS.st, hat, by show 1 ≤ sizeLine; decide, fun B hB => ?_⟩
    have sB := same_new (o := .lst [V.str x]) hB
    have oB := own_mk (xs := [V.str x]) D8 hB
    have oA := oA.same sB
    have oL := oL.same sB
    have D9 := D8.new (o := .lst [V.str x]) hB
    have kp9 := kp8.trans (Kp.new (o := .lst [V.str x]) hB)
    generalize upd H8 B (.lst [V.str x]) = H9 at oA oL oB D9 kp9
    have tl := lenS_take ws j
    have cl := lenS_count (ws.take j)
    refine ⟨A, B, _, _, rfl, rfl, oA.st, oB.st, ?_, fun G hG => ?_⟩
    · rw [List.length_map]
      exact sz_line (by rw [List.length_singleton]; omega)
    rw [show (ws.take j).map V.str ++ [V.str x] = (ws.take j ++ [x]).map V.str by rw [List.map_append]; rfl]
    have sG := same_new (o := .lst ((ws.take j ++ [x]).map V.str)) hG
    have oG := own_mk (xs := (ws.take j ++ [x]).map V.str) D9 hG
    have oL := oL.same sG
    have D10 := D9.new (o := .lst ((ws.take j ++ [x]).map V.str)) hG
    have kp10 := kp9.trans (Kp.new (o := .lst ((ws.take j ++ [x]).map V.str)) hG)
    generalize upd H9 G (.lst ((ws.take j ++ [x]).map V.str)) = H10 at oG oL D10 kp10
    have lx : lenS (ws.take j ++ [x]) ≤ lenS ws + 5001 := by
      rw [lenS_app, lenS_cons]
      have : lenS [] = 0 := rfl
      omega
    refine ⟨_, rfl, _, rfl, _, rfl, rfl, _, rfl, ?_⟩
    refine ite2 (fun hw2 => ?_) (fun hw2 => ?_)
    · refine ⟨(j : Int), 1, rfl, rfl, _, rfl, L, _, rfl, SqL.of oL.st, fun Z hZ => ?_⟩
      have ed : cutV (ws.map V.str) (some ((j : Int) + 1)) none = (ws.drop (j + 1)).map V.str := by
        rw [show ((j : Int) + 1 : Int) = ((j + 1 : Nat) : Int) by omega, cut_drop (by rw [wl]; omega), List.map_drop]
      rw [ed]
      have sZ := same_new (o := .lst ((ws.drop (j + 1)).map V.str)) hZ
      have oZ := own_mk (xs := (ws.drop (j + 1)).map V.str) D10 hZ
      have oG := oG.same sZ
      have D11 := D10.new (o := .lst ((ws.drop (j + 1)).map V.str)) hZ
      have kp11 := kp10.trans (Kp.new (o := .lst ((ws.drop (j + 1)).map V.str)) hZ)
      generalize upd H10 Z (.lst ((ws.drop (j + 1)).map V.str)) = H11 at oG oZ D11 kp11
      have dl := lenS_drop ws (j + 1)
      have c1 := lenS_count (ws.take j ++ [x])
      have c2 := lenS_count (ws.drop (j + 1))
      refine ⟨G, Z, _, _, rfl, rfl, oG.st, oZ.st, ?_, fun J hJ => ?_⟩
      · rw [List.length_map, List.length_map]
        exact sz_line (by omega)
      rw [show (ws.take j ++ [x]).map V.str ++ (ws.drop (j + 1)).map V.str = (ws.take j ++ [x] ++ ws.drop (j + 1)).map V.str from List.map_append.symm]
      have lall : lenS (ws.take j ++ [x] ++ ws.drop (j + 1)) ≤ 2 * t.length + 5003 := by
        rw [lenS_app]
        omega
      have hrow := row_sum (ws.take j ++ [x] ++ ws.drop (j + 1))
      have hsm := lenS_sum (ws.take j ++ [x] ++ ws.drop (j + 1))
      have hm1 : (ws.take j ++ [x] ++ ws.drop (j + 1)).length * (" " : Str).length ≤ (ws.take j ++ [x] ++ ws.drop (j + 1)).length * 1 := Nat.mul_le_mul (Nat.le_refl _) len_bl
      refine ⟨" ", J, ws.take j ++ [x] ++ ws.drop (j + 1), rfl, rfl, .inl (SqL.of upd_same), by omega, ?_⟩
      exact q _ 1 l8 _ (by show (rowT _).length ≤ _; omega) (kp11.trans (Kp.new hJ)) (D11.new hJ)
    · refine ⟨(j : Int), 0, rfl, rfl, _, rfl, L, _, rfl, SqL.of oL.st, fun Z hZ => ?_⟩
      have ed : cutV (ws.map V.str) (some ((j : Int) + 0)) none = (ws.drop (j)).map V.str := by
        rw [show ((j : Int) + 0 : Int) = ((j : Nat) : Int) by omega, cut_drop (by rw [wl]; omega), List.map_drop]
      rw [ed]
      have sZ := same_new (o := .lst ((ws.drop (j)).map V.str)) hZ
      have oZ := own_mk (xs := (ws.drop (j)).map V.str) D10 hZ
      have oG := oG.same sZ
      have D11 := D10.new (o := .lst ((ws.drop (j)).map V.str)) hZ
      have kp11 := kp10.trans (Kp.new (o := .lst ((ws.drop (j)).map V.str)) hZ)
      generalize upd H10 Z (.lst ((ws.drop (j)).map V.str)) = H11 at oG oZ D11 kp11
      have dl := lenS_drop ws (j)
      have c1 := lenS_count (ws.take j ++ [x])
      have c2 := lenS_count (ws.drop (j))
      refine ⟨G, Z, _, _, rfl, rfl, oG.st, oZ.st, ?_, fun J hJ => ?_⟩
      · rw [List.length_map, List.length_map]
        exact sz_line (by omega)
      rw [show (ws.take j ++ [x]).map V.str ++ (ws.drop (j)).map V.str = (ws.take j ++ [x] ++ ws.drop (j)).map V.str from List.map_append.symm]
      have lall : lenS (ws.take j ++ [x] ++ ws.drop (j)) ≤ 2 * t.length + 5003 := by
        rw [lenS_app]
        omega
      have hrow := row_sum (ws.take j ++ [x] ++ ws.drop (j))
      have hsm := lenS_sum (ws.take j ++ [x] ++ ws.drop (j))
      have hm1 : (ws.take j ++ [x] ++ ws.drop (j)).length * (" " : Str).length ≤ (ws.take j ++ [x] ++ ws.drop (j)).length * 1 := Nat.mul_le_mul (Nat.le_refl _) len_bl
      refine ⟨" ", J, ws.take j ++ [x] ++ ws.drop (j), rfl, rfl, .inl (SqL.of upd_same), by omega, ?_⟩
      exact q _ 1 l8 _ (by show (rowT _).length ≤ _; omega) (kp11.trans (Kp.new hJ)) (D11.new hJ)
end
end My

set_option pp.maxSteps 1500
namespace My
open PySem PySem.Spec PyProof.Rows L2
theorem sh_small {i : Int} (h : i.natAbs < 100000) : Sh 0 6 (.int i) := ⟨decide_eq_true (log_ok h), rfl, Nat.le_refl _, sI_len h⟩
theorem sh_list1 {k n : Nat} {a : PyData} (h1 : Sh k n a) : Sh (k + 1) (n + 2) (.list [a]) := by
  refine ⟨?_, ?_, ?_, ?_⟩
  · show (a.showable && true) = true
    rw [h1.sh]
    rfl
  · show (a.hasDict || false) = false
    rw [h1.nd]
    rfl
  · show max a.depth 0 + 1 ≤ k + 1
    have := h1.dp
    omega
  · show (listText [a.shown]).length ≤ _
    have e : listText [a.shown] = (((Str.ofString "[" ++ a.shown)) ++ Str.ofString "]") := rfl
    rw [e, strLen_append, strLen_append]
    have e1 : (Str.ofString "[").length = 1 := by decide
    have e2 : (Str.ofString "]").length = 1 := by decide
    have := h1.le
    omega
theorem sh_row {row : List Nat} (h : ∀ k ∈ row, k < 100) (hl : row.length ≤ 2000) : Sh 1 16010 (rowI row) := by
  refine (sh_tup (k := 0) (n := 6) (ds := row.map fun k : Nat => PyData.int (k : Int)) fun d hd => ?_).mono (Nat.le_refl _) ?_
  · obtain ⟨k, hk, rfl⟩ := List.mem_map.mp hd
    have := h k hk
    exact sh_small (by omega)
  · rw [List.length_map]
    omega
theorem row_100 {C : Cod} (O : C.Ok) {row : List Nat} (R : C.Row row) : ∀ k ∈ row, k < 100 := fun k hk => by
  have := R.lt k hk
  have := O.m2
  omega
theorem sh_pairS {i j : Int} (h1 : i.natAbs < 100000) (h2 : j.natAbs < 100000) : Sh 1 16010 (.tuple [.int i, .int j]) :=
  (sh_tup (k := 0) (n := 6) (ds := [.int i, .int j]) fun d hd => by
    rcases List.mem_cons.mp hd with e | e
    · rw [e]; exact sh_small h1
    · rw [List.mem_singleton.mp e]; exact sh_small h2).mono (Nat.le_refl _) (by simp)
theorem rdW_lt {n : Nat} {ws : List Str} {i j : Int} (h : rdW n ws = some (i, j)) : i.natAbs < 100000 ∧ j.natAbs < 100000 := by
  unfold rdW at h
  cases e : wrongT n ws ws.length with
  | cons k r =>
    rw [e] at h
    replace h : (if k < 2000 then some ((1 : Int), (k : Int) + 1) else some (1, 2001)) = some (i, j) := h
    split at h
    · cases h
      constructor <;> omega
    · cases h
      constructor <;> decide
  | nil =>
    rw [e] at h
    replace h : (if 2000 < ws.length then some ((1 : Int), (2001 : Int)) else none) = some (i, j) := h
    split at h
    · cases h
      constructor <;> decide
    · cases h
theorem sh_outT {C : Cod} (O : C.Ok) (t : Str) : Sh 2 20000 (outT C.moves.length (some t)) := by
  cases h : rdRes C.moves.length t with
  | none =>
    rw [outT_ok h]
    have R := rdRow_row O h
    exact (sh_list1 (sh_row (row_100 O R) R.len)).mono (Nat.le_refl _) (by decide)
  | some p =>
    obtain ⟨i, j⟩ := p
    rw [outT_bad h]
    have : i.natAbs < 100000 ∧ j.natAbs < 100000 := by
      by_cases h0 : V.str t = V.str ""
      · unfold rdRes at h
        rw [if_pos h0] at h
        cases h
      · cases h2 : inV (.str "") (strV (Txt.split t " ")) with
        | true =>
          rw [res_word h0 h2] at h
          cases h
          constructor <;> decide
        | false =>
          rw [res_row h0 h2] at h
          exact rdW_lt h
    exact (sh_pairS this.1 this.2).mono (by decide) (by decide)
theorem rowL_inj {r q : List Nat} (h : some (rowL r) = some (q.map fun k : Nat => PyData.int (k : Int))) : q = r := by
  have h := Option.some.inj h
  unfold rowL at h
  exact ((List.map_inj_right fun a b e => by
    have := PyData.int.inj e
    omega).mp h).symm
theorem txtR_len {C : Cod} (O : C.Ok) {row : List Nat} (R : C.Row row) : (txtR row).length ≤ row.length * 7 := by
  have h := row_len (k := 6) (ws := row.map fun k : Nat => sI (k : Int)) fun w hw => by
    obtain ⟨k, hk, rfl⟩ := List.mem_map.mp hw
    have := row_100 O R k hk
    exact sI_len (by omega)
  rw [List.length_map] at h
  exact h
theorem none_bad {C : Cod} {row : List Nat} (R : C.Row row) : rowRes C (some (rowL row ++ [.none])) = some (1, (row.length : Int) + 1) := by
  have h := rowBad_at (C := C) (pre := rowL row) (d := .none) (r := []) (codes_in R.lt) (by unfold rowL; rw [List.length_map]; exact R.len) rfl
  rw [show (rowL row).length = row.length from List.length_map ..] at h
  exact rowRes_bad h
theorem writD_bad {C : Cod} {r : Option (List PyData)} {i j : Int} (h : rowRes C r = some (i, j)) : writD C r = .tuple [.int i, .int j] := by
  unfold writD
  rw [h]
/-- the text of many words 1 -/
theorem one_sI : sI ((1 : Nat) : Int) = "1" := TL.ext_tl (by rw [tl_pos, TL.numL_lt (by decide)]; decide +kernel)
theorem many_row (many : Nat) : Txt.join " " (List.replicate many ("1" : Str)) = txtR (List.replicate many 1) := by
  show rowT _ = _
  unfold txtR
  rw [List.map_replicate]
  congr 1
theorem long_read {n : Nat} {row : List Nat} (h : ∀ k ∈ row, k < n) (hl : 2000 < row.length) : rdRes n (txtR row) = some (1, 2001) := by
  have e : row ≠ [] := fun e => by rw [e] at hl; exact absurd hl (by decide)
  have h1 := codes_ne e
  have h2 := split_codes e
  show rdRes n (rowT (row.map fun k : Nat => sI (k : Int))) = _
  rw [res_row h1 (by rw [h2]; exact codes_no_empty row), h2]
  refine rdW_long (fun k w _ hw => ?_) (by rw [List.length_map]; exact hl)
  obtain ⟨j, hj, rfl⟩ := map_get hw
  exact isC_iff.mpr ⟨j, h j (get_mem hj), rfl⟩
end My

set_option pp.maxSteps 1200
namespace My
open PySem PySem.Spec PyProof.Rows L2
section
variable {P : Program} {w : World} {K : PySem.W.Frag} {mg : Str → Option Value} {base : Heap}
def sp_law : Sp := fun vs H Q _ => ∃ (a : Addr) (ns : List Int), vs = [.ref a] ∧ SqL K H a (ns.map V.int) ∧ ns.length ≤ 63 ∧ ∀ H', Q (.bl true) H'
def bend (j : Nat) : Nat := if j = 0 then 1000 else if j = 1 then 7100 else 20000
set_option maxHeartbeats 4000000 in
theorem ok_law (T : Txt K mg) : FnG P w K mg base 10 T.f_law T.d_law ["script"] (sp_law (K := K)) := by
  refine okG T.F_law sc_law (fun vs H Q E h => ?_) (fun cdv A outer s H vs Q E hgd hr h => ?_)
  · obtain ⟨a, ns, rfl, _⟩ := h
    rfl
  · obtain ⟨a, ns, rfl, hS, hl, q⟩ := h
    refine ⟨_,
(pss_cons (ps_set (i := 1) sc_law.nd rfl (Or.inl rfl) (pe_call (ok_law_begun T) (hr.mono (by decide)) (by rfl) T.g__law_begun T.F__law_begun.kp T.b__law_begun .nil pass0 (pa_cons (pv 0) pa_nil)))
      (pss_cons (ps_for PassesOwn.never rfl (pi_range1 (by rfl) T.z_range (pa_cons (pe_op op_add pe_int (pe_callB (call_min2 rfl) (by rfl) T.z_min (by decide +kernel) (pa_cons (pe_callB (call_len_seq) (by rfl) T.z_len (by decide +kernel) (pa_cons (pv 0) pa_nil)) (pa_cons pe_int pa_nil)))) pa_nil)) (pg_name (i := 2) sc_law.nd rfl (Or.inl rfl)) (pss_cons (ps_set (i := 3) sc_law.nd rfl (Or.inl rfl) (pe_call (ok_law_coder T) (hr.mono (by decide)) (by rfl) T.g__law_coder T.F__law_coder.kp T.b__law_coder .nil pass0 (pa_cons (pv 1) (pa_cons pe_int (pa_cons pe_int (pa_cons pe_int pa_nil))))))
      (pss_cons (ps_set (i := 4) sc_law.nd rfl (Or.inl rfl) (pe_call (ok_law_row T) (hr.mono (by decide)) (by rfl) T.g__law_row T.F__law_row.kp T.b__law_row .nil pass0 (pa_cons (pv 1) (pa_cons (pv 3) (pa_cons pe_int pa_nil)))))
      (pss_cons (ps_set (i := 5) sc_law.nd rfl (Or.inl rfl) (pe_bm PySem.F.plainAttrs_str PySem.F.slot_str_join PySem.F.type_str_join mt_join pe_str (pa_cons (pe_lc (own := [("code", 9)]) rfl sc_law.nd (pi_tup (pv 4)) (blkOk_by (own := [("code", 9)]) (N := ["script", "m", "turn", "coder", "row", "text", "k", "thing", "many", "code"]) (sc := defScope s_law) (by decide +kernel)) (fun _ _ _ _ _ => (pg_name (i := 9) sc_law.nd rfl (Or.inl rfl))) (fun _ _ _ _ _ => pts_nil) (fun _ _ _ _ _ => (pe_callTy call_str_int (by rfl) T.z_str (by decide +kernel) (pa_cons (pv 9) pa_nil)))) pa_nil)))
      (pss_cons (ps_if (PW.pt (pw_or (pt_cmpR op_ne (pe_call (ok_row_text T) (hr.mono (by decide)) (by rfl) T.g_row_text T.F_row_text.kp T.b_row_text .nil passL (pa_cons (pv 3) (pa_cons (pv 4) pa_nil))) (pv 5) (nomark _)) (pw_or1 (pt_cmpR op_ne (pe_callB ((call_repr hgd hr.units)) (by rfl) T.z_repr (by decide +kernel) (pa_cons (pe_call (ok_read_row T) (hr.mono (by decide)) (by rfl) T.g_read_row T.F_read_row.kp T.b_read_row .nil passL (pa_cons (pv 3) (pa_cons (pv 5) pa_nil))) pa_nil)) (pe_callB ((call_repr hgd hr.units)) (by rfl) T.z_repr (by decide +kernel) (pa_cons (pv 4) pa_nil)) (nomark _))))) (pss_one (ps_ret pe_bl)) pss_nil)
      (pss_cons (ps_for PassesOwn.never rfl (pi_range1 (by rfl) T.z_range (pa_cons pe_int pa_nil)) (pg_name (i := 6) sc_law.nd rfl (Or.inl rfl)) (pss_cons (ps_set (i := 5) sc_law.nd rfl (Or.inl rfl) (pe_call (ok_law_bent T) (hr.mono (by decide)) (by rfl) T.g__law_bent T.F__law_bent.kp T.b__law_bent .nil pass0 (pa_cons (pv 1) (pa_cons (pv 5) pa_nil))))
      (pss_one (ps_if (pt_cmpR op_ne (pe_callB ((call_repr hgd hr.units)) (by rfl) T.z_repr (by decide +kernel) (pa_cons (pe_call (ok_law_outcome T) (hr.mono (by decide)) (by rfl) T.g__law_outcome T.F__law_outcome.kp T.b__law_outcome .nil pass0 (pa_cons (pv 3) (pa_cons (pv 5) pa_nil))) pa_nil)) (pe_callB ((call_repr hgd hr.units)) (by rfl) T.z_repr (by decide +kernel) (pa_cons (pe_call (ok_law_due T) (hr.mono (by decide)) (by rfl) T.g__law_due T.F__law_due.kp T.b__law_due .nil pass0 (pa_cons (pv 3) (pa_cons (pv 5) pa_nil))) pa_nil)) (nomark _)) (pss_one (ps_ret pe_bl)) pss_nil))))
      (pss_cons (ps_for PassesOwn.never rfl (pi_list (pe_lst (pa_cons pe_non (pa_cons pe_int (pa_cons pe_bl (pa_cons (pe_lst (pa_cons pe_str pa_nil)) (pa_cons (pe_tup pa_nil) (pa_cons pe_dnewK pa_nil)))))))) (pg_name (i := 7) sc_law.nd rfl (Or.inl rfl)) (pss_one (ps_if (pt_cmpR (op_neD hr.units) (pe_call (ok_law_outcome T) (hr.mono (by decide)) (by rfl) T.g__law_outcome T.F__law_outcome.kp T.b__law_outcome .nil pass0 (pa_cons (pv 3) (pa_cons (pv 7) pa_nil))) (pe_tup (pa_cons pe_int (pa_cons pe_int pa_nil))) (nomark _)) (pss_one (ps_ret pe_bl)) pss_nil)))
      (pss_one (ps_if (pt_cmpR (op_neD hr.units) (pe_lst (pa_cons (pe_call (ok_law_written T) (hr.mono (by decide)) (by rfl) T.g__law_written T.F__law_written.kp T.b__law_written .nil pass0 (pa_cons (pv 3) (pa_cons (pe_op op_catA (pv 4) (pe_tup (pa_cons pe_non pa_nil))) pa_nil))) (pa_cons (pe_call (ok_law_written T) (hr.mono (by decide)) (by rfl) T.g__law_written T.F__law_written.kp T.b__law_written .nil pass0 (pa_cons (pv 3) (pa_cons (pe_callTy call_list_of (by rfl) T.z_list (by decide +kernel) (pa_cons (pv 4) pa_nil)) pa_nil))) pa_nil))) (pe_lst (pa_cons (pe_tup (pa_cons pe_int (pa_cons (pe_op op_add (pe_callB (call_len_seq) (by rfl) T.z_len (by decide +kernel) (pa_cons (pv 4) pa_nil)) pe_int) pa_nil))) (pa_cons (pe_tup (pa_cons pe_int (pa_cons pe_int pa_nil))) pa_nil))) (nomark _)) (pss_one (ps_ret pe_bl)) pss_nil)))))))))
      (pss_cons (ps_set (i := 8) sc_law.nd rfl (Or.inl rfl) (pe_op op_add pe_int (pe_call (ok_law_next T) (hr.mono (by decide)) (by rfl) T.g__law_next T.F__law_next.kp T.b__law_next .nil pass0 (pa_cons (pv 1) (pa_cons pe_int pa_nil)))))
      (pss_cons (ps_set (i := 5) sc_law.nd rfl (Or.inl rfl) (pe_bm PySem.F.plainAttrs_str PySem.F.slot_str_join PySem.F.type_str_join mt_join pe_str (pa_cons (pe_op op_rep (pe_lst (pa_cons pe_str pa_nil)) (pv 8)) pa_nil)))
      (pss_one (ps_ret (pe_cmpR op_eq (pe_callB ((call_repr hgd hr.units)) (by rfl) T.z_repr (by decide +kernel) (pa_cons (pe_call (ok_law_outcome T) (hr.mono (by decide)) (by rfl) T.g__law_outcome T.F__law_outcome.kp T.b__law_outcome .nil pass0 (pa_cons (pv 3) (pa_cons (pv 5) pa_nil))) pa_nil)) (pe_callB ((call_repr hgd hr.units)) (by rfl) T.z_repr (by decide +kernel) (pa_cons (pe_ifExp (pt_cmpR op_le (pv 8) pe_int (nomark _)) (pe_lst (pa_cons (pe_op My.op_repW (pe_tup (pa_cons pe_int pa_nil)) (pv 8)) pa_nil)) (pe_tup (pa_cons pe_int (pa_cons pe_int pa_nil)))) pa_nil)) (nomark _))))))))
, ?_⟩
    refine ⟨.ref a, rfl, a, ns, rfl, hS, hl, fun m c l H1 s1 hm hc hl0 D1 => ?_⟩
    have hS1 := s1.seq hS
    refine ⟨_, rfl, a, _, rfl, .inl hS1, ?_⟩
    refine ⟨_, 5, rfl, 2, _, rfl, rfl, _, rfl, ?_, ?_, ?_⟩
    · rw [List.length_map]; split <;> omega
    · rw [List.length_map]; split <;> omega
    have hn : (2 + if (5 : Int) < ((ns.map V.int).length : Int) then 5 else ((ns.map V.int).length : Int)).toNat ≤ 7 := by
      rw [List.length_map]
      split <;> omega
    have hn1 : 1 ≤ (2 + if (5 : Int) < ((ns.map V.int).length : Int) then 5 else ((ns.map V.int).length : Int)).toNat := by
      rw [List.length_map]
      split <;> omega
    refine for_range (lo := 0) (n := (2 + if (5 : Int) < ((ns.map V.int).length : Int) then 5 else ((ns.map V.int).length : Int)).toNat)
      (fun i σ H' => ∃ x2 x3 x4 x5 x6 x7 x8 x9 l', σ = [some (.ref a), some (.ref m), x2, x3, x4, x5, x6, x7, x8, x9] ∧ Dr H' m c l' (900000 - 200 * i) ∧
        (i = 0 ∨ ∃ cv C, x3 = some cv ∧ (C : Cod).Ok ∧ Dp K H' cv C.dat)) ⟨none, none, none, none, none, none, none, none, l, rfl, D1, .inl rfl⟩ ?_ ?_
    · rintro i σ H2 hi ⟨x2, x3, x4, x5, x6, x7, x8, x9, l2, rfl, D2, _⟩
      have hi7 : i < 7 := by omega
      have D2 : Dr H2 m c l2 (900000 - 200 * (i + 1) + 12 + 60 + 1 + 60) := D2.less (by omega)
      refine ⟨_, rfl, m, c, l2, _, 3, 2, 16, rfl, by decide, by decide, by decide, D2, fun cv C l3 H3 kp3 D3 sm hcv => ?_⟩
      have O : C.Ok := sm.ok (by decide) (by decide) (by decide)
      refine ⟨_, rfl, _, rfl, m, c, l3, _, cv, C, 60, rfl, by decide, O, hcv, D3, fun rv row l4 H4 kp4 D4 R hl60 hrv => ?_⟩
      have hcv4 := dp_keep (keep_draw kp4 D3) _ _ (noL_cod C) hcv
      have hm16 := O.m2
      obtain ⟨ra, rfl, hra⟩ := row_at hrv
      -- the text
      refine ⟨rfl, _, rfl, ra, rfl, ⟨_, hra⟩, fun D hD => ?_⟩
      have h100 := row_100 O R
      refine lc_tup (K := K) (a := ra) (xs := rowV row) (fun i H' => H' = upd H4 D (.lst (strV ((row.map fun k : Nat => sI (k : Int)).take i)))) rfl ?_ ?_ ?_
      · rintro j H' _ rfl
        exact same_tup (same_new hD) hra
      · rintro j x H' hx rfl
        obtain ⟨k, hk, rfl⟩ := rowV_get hx
        have := h100 k (get_mem hk)
        refine ⟨rfl, yes_turn ?_⟩
        refine ⟨_, rfl, (k : Int), rfl, log_ok (by omega), strV ((row.map fun k : Nat => sI (k : Int)).take j), upd_same, ?_, ?_⟩
        · unfold strV
          rw [List.length_map, List.length_take, List.length_map]
          exact lt_line (by have := R.len; omega)
        · rw [upd_upd, strs_take (get_map hk)]
          rfl
      rintro H5 rfl
      have e : strV ((row.map fun k : Nat => sI (k : Int)).take (rowV row).length) = strV (row.map fun k : Nat => sI (k : Int)) := by
        rw [List.take_of_length_le (by unfold rowV; rw [List.length_map, List.length_map]; exact Nat.le_refl _)]
      rw [e]
      have s5 := same_new (o := .lst (strV (row.map fun k : Nat => sI (k : Int)))) hD
      have D5 := D4.new (o := .lst (strV (row.map fun k : Nat => sI (k : Int)))) hD
      refine ⟨" ", D, row.map fun k : Nat => sI (k : Int), rfl, rfl, .inl (SqL.of upd_same), few_sum (fun w hw => ?_) (by rw [List.length_map]; have := R.len; omega) len_bl, ?_⟩
      · obtain ⟨k, hk, rfl⟩ := List.mem_map.mp hw
        have := h100 k hk
        exact sI_len (by omega)
      have hcv5 := dp_same s5 _ _ hcv4
      have hrv5 := dp_same s5 _ _ hrv
      have hra5 := same_tup s5 hra
      generalize upd H4 D (.lst (strV (row.map fun k : Nat => sI (k : Int)))) = H5 at s5 D5 hcv5 hrv5 hra5
      have htl := txtR_len O R
      have hback := read_back (n := C.moves.length) (by omega) R.len R.lt
      -- written and read
      refine ⟨_, rfl, _, rfl, cv, .ref ra, C, some (rowL row), rfl, O, hcv5, hrv5, fun row' er _ H6 s6 => ?_, fun i j h0 => ?_⟩
      · cases rowL_inj er
        refine ⟨_, rfl, rfl, _, rfl, iteNS rfl ?_⟩
        refine ⟨_, rfl, _, rfl, cv, .str (txtR row), C, some (txtR row), rfl, O, dp_same s6 _ _ hcv5, rfl, fun t ht => by cases ht; omega, fun t ht h0 p H7 s7 hp => ?_, fun h => (by cases h), fun t i' j' ht h0 => ?_⟩
        · cases ht
          have hback2 : rdRow C.moves.length (txtR row) = row := hback.2
          rw [hback2] at hp
          have s57 := s6.trans s7
          have shr := sh_row (row_100 O R) R.len
          refine ⟨_, _, rfl, dp_row (.inl (.inl hp)), shr.sh, shr.nd, Nat.le_trans shr.dp (by decide), sz_line (Nat.le_trans shr.le (by decide)), ?_⟩
          refine ⟨_, rfl, _, _, rfl, dp_same s57 _ _ hrv5, shr.sh, shr.nd, Nat.le_trans shr.dp (by decide), sz_line (Nat.le_trans shr.le (by decide)), ?_⟩
          refine ⟨rfl, _, rfl, iteNS rfl ?_⟩
          have D7 := D5.same s57
          have hcv7 := dp_same s57 _ _ hcv5
          have hrv7 := dp_same s57 _ _ hrv5
          clear hp hcv5 hrv5 hra5 hra hrv hcv4 hcv D5 s5 s6 s7 s57
          -- bent twice
          refine ⟨_, rfl, by decide, by decide, ?_⟩
          refine for_range (lo := 0) (n := 2) (fun j σ H' => ∃ t x6 l', σ = [some (.ref a), some (.ref m), some (.int (0 + (i : Int))), some cv, some (.ref ra), some (.str t), x6, x7, x8, x9] ∧ t.length ≤ bend j ∧ Dr H' m c l' (900000 - 200 * (i + 1) + 12 - 6 * j) ∧ Dp K H' cv C.dat ∧ Dp K H' (.ref ra) (rowI row)) ⟨txtR row, x6, l4, rfl, by show _ ≤ 1000; omega, D7, hcv7, hrv7⟩ ?_ ?_
          · rintro j σ H8 hj ⟨t, y6, l8, rfl, ht, D8, hcv8, hrv8⟩
            have D8 : Dr H8 m c l8 (900000 - 200 * (i + 1) + 12 - 6 * (j + 1) + 6) := D8.less (by omega)
            have hj2 : bend (j + 1) ≤ 20000 ∧ 2 * bend j + 5100 ≤ bend (j + 1) ∧ bend j ≤ 7100 := by
              have : j = 0 ∨ j = 1 := by omega
              rcases this with rfl | rfl <;> decide
            refine ⟨_, rfl, _, rfl, m, c, l8, _, t, rfl, by omega, D8, fun u l9 H9 hu kp9 D9 => ?_⟩
            have k9 := keep_draw kp9 D8
            have hcv9 := dp_keep k9 _ _ (noL_cod C) hcv8
            have hrv9 := dp_keep k9 _ _ (noL_row row) hrv8
            have sho := sh_outT O u
            refine ⟨_, rfl, _, rfl, cv, .str u, C, some u, rfl, O, hcv9, rfl, fun t' ht' => by cases ht'; omega, fun v10 H10 s10 hv10 => ?_⟩
            refine ⟨_, _, rfl, hv10, sho.sh, sho.nd, Nat.le_trans sho.dp (by decide), sz_line (Nat.le_trans sho.le (by decide)), ?_⟩
            refine ⟨_, rfl, _, rfl, cv, u, C, rfl, O, dp_same s10 _ _ hcv9, by omega, fun v11 H11 s11 hv11 => ?_⟩
            refine ⟨_, _, rfl, hv11, sho.sh, sho.nd, Nat.le_trans sho.dp (by decide), sz_line (Nat.le_trans sho.le (by decide)), ?_⟩
            have s911 := s10.trans s11
            refine ⟨rfl, _, rfl, iteNS rfl ?_⟩
            exact ⟨u, _, l9, rfl, by omega, D9.same s911, dp_same s911 _ _ hcv9, dp_same s911 _ _ hrv9⟩
          · rintro σ H8 ⟨t, y6, l8, rfl, ht, D8, hcv8, hrv8⟩
            -- the things
            refine ⟨by show 1 ≤ sizeLine; decide, fun e1 he1 => ?_⟩
            have s9 := same_new (o := .lst [V.str "0"]) he1
            have te1 : (upd H8 e1 (.lst [V.str "0"])) e1 = some (.lst [V.str "0"]) := upd_same
            generalize upd H8 e1 (.lst [V.str "0"]) = H9 at s9 te1
            refine ⟨Nat.zero_le _, fun e2 he2 => ?_⟩
            have s10' := same_new (o := .tup []) he2
            have s10 := s9.trans s10'
            have te1 := s10' _ _ te1
            have te2 : (upd H9 e2 (.tup [])) e2 = some (.tup []) := upd_same
            generalize upd H9 e2 (.tup []) = H10 at s10 te1 te2 s10'
            intro e3 he3
            have s11' := same_new (o := .dK []) he3
            have s11 := s10.trans s11'
            have te1 := s11' _ _ te1
            have te2 := s11' _ _ te2
            have te3 : (upd H10 e3 (.dK [])) e3 = some (.dK []) := upd_same
            generalize upd H10 e3 (.dK []) = H11 at s11 te1 te2 te3 s11'
            refine ⟨by show 6 ≤ sizeLine; decide, fun M hM => ?_⟩
            have s12' := same_new (o := .lst [V.non, V.int 0, V.bl true, V.ref e1, V.ref e2, V.ref e3]) hM
            have s12 := s11.trans s12'
            have tM : (upd H11 M (.lst [V.non, V.int 0, V.bl true, V.ref e1, V.ref e2, V.ref e3])) M = some (.lst [V.non, V.int 0, V.bl true, V.ref e1, V.ref e2, V.ref e3]) := upd_same
            have te1 := s12' _ _ te1
            have te2 := s12' _ _ te2
            have te3 := s12' _ _ te3
            generalize upd H11 M (.lst [V.non, V.int 0, V.bl true, V.ref e1, V.ref e2, V.ref e3]) = H12 at s12 tM te3 te2 te1 s12'
            have hcv12 := dp_same s12 _ _ hcv8
            have hrv12 := dp_same s12 _ _ hrv8
            have D12 := D8.same s12
            refine ⟨M, rfl, ⟨_, SqL.of tM⟩, ?_⟩
            refine for_list (K := K) (a := M) (xs := [V.non, V.int 0, V.bl true, V.ref e1, V.ref e2, V.ref e3]) (fun _ σ H' => ∃ y7, σ = [some (.ref a), some (.ref m), some (.int (0 + (i : Int))), some cv, some (.ref ra), some (.str t), y6, y7, x8, x9] ∧ Same H12 H') ⟨x7, rfl, Same.refl _⟩ ?_ ?_ ?_
            · rintro i' σ H' _ ⟨_, _, s13⟩
              exact SqL.of (s13 _ _ tM)
            · rintro i' v σ H' hi' ⟨y7, rfl, s13⟩
              have hth : ThS K H' v none := by
                match i', hi' with
                | 0, h => cases h; exact ths_of .non (by decide +kernel)
                | 1, h => cases h; exact ths_of (.int _) (by decide +kernel)
                | 2, h => cases h; exact ths_of (.bl _) (by decide +kernel)
                | 3, h => cases h; exact ths_of (.lst (s13 _ _ te1)) (by decide +kernel)
                | 4, h => cases h; exact ths_of (.tup (s13 _ _ te2)) (by decide +kernel)
                | 5, h => cases h; exact ths_of (.dK (s13 _ _ te3)) (by decide +kernel)
              refine ⟨_, rfl, _, rfl, cv, v, C, none, rfl, O, dp_same s13 _ _ hcv12, hth, fun _ h => (by cases h), fun v14 H14 s14 hv14 => ?_⟩
              refine ⟨by show 2 ≤ sizeLine; decide, fun p5 hp5 => ?_⟩
              have s15' := same_new (o := .tup [V.int 0, V.int 0]) hp5
              have t15 : Dp K (upd H14 p5 (.tup [V.int 0, V.int 0])) (.ref p5) (.tuple [.int 0, .int 0]) := dp_two upd_same
              have hv15 : Dp K _ _ (.tuple [.int 0, .int 0]) := dp_same s15' _ _ hv14
              exact neD_f hv15 t15 (by decide +kernel) (iteF ⟨_, rfl, (s13.trans s14).trans s15'⟩)
            · rintro σ H13 ⟨y7, rfl, s13⟩
              have hcv13 := dp_same s13 _ _ hcv12
              have hrv13 := dp_same s13 _ _ hrv12
              have D13 := D12.same s13
              obtain ⟨ra', e, hra13⟩ := row_at hrv13
              cases e
              -- what is no row
              refine ⟨_, rfl, _, rfl, by show 1 ≤ sizeLine; decide, fun p1 hp1 => ?_⟩
              have s14' := same_new (o := .tup [V.non]) hp1
              have t14 : SqT K (upd H13 p1 (.tup [V.non])) p1 [V.non] := upd_tup
              have hra14 := same_tup s14' hra13
              generalize upd H13 p1 (.tup [V.non]) = H14 at s14' t14 hra14
              refine catV hra14 t14 (by unfold rowV; rw [List.length_map]; have := R.len; exact sz_line (by show row.length + 1 ≤ 1000000; omega)) fun p2 H15 s15' t15 => ?_
              have s15 := s14'.trans s15'
              have hbad : Dp K H15 (.ref p2) (.tuple (rowL row ++ [PyData.none])) := .tup t15 (dpAll_app (dpAll_rowV _) (.cons .non .nil))
              refine ⟨cv, .ref p2, C, some (rowL row ++ [PyData.none]), rfl, O, dp_same s15 _ _ hcv13, hbad, fun v16 H16 s16' hv16 => ?_⟩
              rw [writD_bad (none_bad R)] at hv16
              have s16 := s15.trans s16'
              refine ⟨_, rfl, _, rfl, ra, _, rfl, .inr (same_tup s16 hra13), fun p3 hp3 => ?_⟩
              have s17' := same_new (o := .lst (rowV row)) hp3
              have s17 := s16.trans s17'
              have t17 : (upd H16 p3 (.lst (rowV row))) p3 = some (.lst (rowV row)) := upd_same
              have hv17 := dp_same s17' _ _ hv16
              generalize upd H16 p3 (.lst (rowV row)) = H17 at s17 s17' t17 hv17
              refine ⟨cv, .ref p3, C, none, rfl, O, dp_same s17 _ _ hcv13, th_of (.lst t17) (by decide +kernel), fun v18 H18 s18' hv18 => ?_⟩
              rw [writD_bad (i := 0) (j := 0) rfl] at hv18
              have s18 := s17.trans s18'
              have hv18a := dp_same s18' _ _ hv17
              refine ⟨by show 2 ≤ sizeLine; decide, fun L1 hL1 => ?_⟩
              have s19' := same_new (o := .lst [v16, v18]) hL1
              have t19 : Dp K (upd H18 L1 (.lst [v16, v18])) (.ref L1) (.list [.tuple [.int 1, .int ((row.length : Int) + 1)], .tuple [.int 0, .int 0]]) := .lst (SqL.of upd_same) (.cons (dp_same s19' _ _ hv18a) (.cons (dp_same s19' _ _ hv18) .nil))
              have s19 := s18.trans s19'
              generalize upd H18 L1 (.lst [v16, v18]) = H19 at s19 t19 s19'
              have rl : (rowV row).length = row.length := List.length_map ..
              refine ⟨_, rfl, ra, _, rfl, .inr (same_tup s19 hra13), _, _, rfl, rfl, by show 2 ≤ sizeLine; decide, fun p4 hp4 => ?_⟩
              rw [rl]
              have s20' := same_new (o := .tup [V.int 1, V.int ((row.length : Int) + 1)]) hp4
              have t20 : Dp K (upd H19 p4 (.tup [V.int 1, V.int ((row.length : Int) + 1)])) (.ref p4) (.tuple [.int 1, .int ((row.length : Int) + 1)]) := dp_two upd_same
              have t19 := dp_same s20' _ _ t19
              have s20 := s19.trans s20'
              generalize upd H19 p4 (.tup [V.int 1, V.int ((row.length : Int) + 1)]) = H20 at s20 t20 t19 s20'
              refine ⟨by show 2 ≤ sizeLine; decide, fun p5 hp5 => ?_⟩
              have s21' := same_new (o := .tup [V.int 0, V.int 0]) hp5
              have t21 : Dp K (upd H20 p5 (.tup [V.int 0, V.int 0])) (.ref p5) (.tuple [.int 0, .int 0]) := dp_two upd_same
              have t20 := dp_same s21' _ _ t20
              have t19 := dp_same s21' _ _ t19
              have s21 := s20.trans s21'
              generalize upd H20 p5 (.tup [V.int 0, V.int 0]) = H21 at s21 t21 t20 t19 s21'
              refine ⟨by show 2 ≤ sizeLine; decide, fun L2 hL2 => ?_⟩
              have s22' := same_new (o := .lst [V.ref p4, V.ref p5]) hL2
              have t22 : Dp K (upd H21 L2 (.lst [V.ref p4, V.ref p5])) (.ref L2) (.list [.tuple [.int 1, .int ((row.length : Int) + 1)], .tuple [.int 0, .int 0]]) := .lst (SqL.of upd_same) (.cons (dp_same s22' _ _ t20) (.cons (dp_same s22' _ _ t21) .nil))
              have t19 := dp_same s22' _ _ t19
              have s22 := s21.trans s22'
              refine neD_f t19 t22 (by rfl) (iteF ?_)
              exact ⟨_, _, _, _, _, _, _, _, l8, rfl, (D13.same s22).less (by omega), .inr ⟨cv, C, rfl, O, dp_same s22 _ _ hcv13⟩⟩
        · cases ht
          have : rdRes C.moves.length (txtR row) = none := hback.1
          rw [this] at h0
          cases h0
      · have := row_ok (C := C) (d := some (rowL row)) rfl R
        rw [this] at h0
        cases h0
    · rintro σ H2 ⟨x2, x3, x4, x5, x6, x7, x8, x9, l2, rfl, D2, hx⟩
      obtain ⟨cv, C, rfl, O, hcv⟩ := hx.resolve_left (by omega)
      have D2 : Dr H2 m c l2 (1000 + 1) := D2.less (by omega)
      refine ⟨_, rfl, m, c, l2, 1000, 3, rfl, by decide, by decide, D2, fun g l3 H3 g0 g1 kp3 D3 => ?_⟩
      have hcv3 := dp_keep (keep_draw kp3 D2) _ _ (noL_cod C) hcv
      refine ⟨1999, g, rfl, rfl, ?_⟩
      obtain ⟨many, hmany⟩ : ∃ many : Nat, 1999 + g = (many : Int) := ⟨(1999 + g).toNat, by omega⟩
      have hmany : g = (many : Int) - 1999 := by omega
      subst hmany
      have hm1 : 1999 ≤ many ∧ many ≤ 2001 := by omega
      have e8 : 1999 + ((many : Int) - 1999) = (many : Int) := by omega
      have hrep : (List.replicate (1999 + ((many : Int) - 1999)).toNat [V.str "1"]).flatten = strV (List.replicate many ("1" : Str)) := by
        rw [e8, Int.toNat_natCast, rep_flat1]
        unfold strV
        rw [List.map_replicate]
      refine ⟨rfl, by show 1 ≤ sizeLine; decide, fun L hL => ⟨_, rfl, L, 1999 + ((many : Int) - 1999), _, rfl, rfl, upd_same, by omega, by omega, ?_, fun p hp => ?_⟩⟩
      · show 1 * _ ≤ sizeLine
        rw [e8, Int.toNat_natCast]
        exact sz_line (by omega)
      rw [hrep]
      have s4 := (same_new (o := .lst [V.str "1"]) hL).trans (same_new (o := .lst (strV (List.replicate many ("1" : Str)))) hp)
      refine ⟨" ", p, List.replicate many "1", rfl, rfl, .inl (SqL.of upd_same), few_sum (fun w hw => ?_) (by rw [List.length_replicate]; omega) len_bl, ?_⟩
      · rw [(List.mem_replicate.mp hw).2]
        decide +kernel
      rw [many_row]
      have hcv4 := dp_same s4 _ _ hcv3
      generalize upd (upd H3 L (.lst [V.str "1"])) p (.lst (strV (List.replicate many ("1" : Str)))) = H4 at hcv4
      have hm := O.m1
      have hm2 := O.m2
      have h1 : ∀ k ∈ List.replicate many 1, k < C.moves.length := fun k hk => by rw [(List.mem_replicate.mp hk).2]; omega
      have hl1 : (List.replicate many 1).length = many := List.length_replicate
      have htl : (txtR (List.replicate many 1)).length ≤ 900000 := by
        have h := row_len (k := 6) (ws := (List.replicate many 1).map fun k : Nat => sI (k : Int)) fun w hw => by
          obtain ⟨k, hk, rfl⟩ := List.mem_map.mp hw
          have := h1 k hk
          exact sI_len (by omega)
        rw [List.length_map, hl1] at h
        show (rowT _).length ≤ _
        omega
      have sho := sh_outT O (txtR (List.replicate many 1))
      refine ⟨_, rfl, _, rfl, cv, .str (txtR (List.replicate many 1)), C, some (txtR (List.replicate many 1)), rfl, O, hcv4, rfl, fun t ht => by cases ht; exact htl, fun v5 H5 s5 hv5 => ?_⟩
      refine ⟨_, _, rfl, hv5, sho.sh, sho.nd, Nat.le_trans sho.dp (by decide), sz_line (Nat.le_trans sho.le (by decide)), ?_⟩
      refine ⟨_, rfl, _, _, rfl, rfl, _, rfl, ?_⟩
      by_cases h2 : many ≤ 2000
      · rw [decide_eq_true (show 1999 + ((many : Int) - 1999) ≤ 2000 by omega)]
        refine iteT ?_
        have hb := read_back (n := C.moves.length) (row := List.replicate many 1) (by omega) (by rw [hl1]; exact h2) h1
        have hb1 : rdRes C.moves.length (txtR (List.replicate many 1)) = none := hb.1
        have hb2 : rdRow C.moves.length (txtR (List.replicate many 1)) = List.replicate many 1 := hb.2
        have eo : outT C.moves.length (some (txtR (List.replicate many 1))) = .list [rowI (List.replicate many 1)] := by rw [outT_ok hb1, hb2]
        rw [eo] at sho ⊢
        refine ⟨by show 1 ≤ sizeLine; decide, fun p1 hp1 => ⟨_, rfl, p1, many, .int 1, rfl, congrArg V.int e8, upd_tup, by omega, by omega, fun p2 hp2 => ⟨by show 1 ≤ sizeLine; decide, fun L2 hL2 => ?_⟩⟩⟩
        refine ⟨_, .list [rowI (List.replicate many 1)], rfl, .lst (SqL.of upd_same) (.cons (dp_row ?_) .nil), sho.sh, sho.nd, Nat.le_trans sho.dp (by decide), sz_line (Nat.le_trans sho.le (by decide)), rfl, ?_⟩
        · refine same_tup (same_new hL2) ?_
          have : rowV (List.replicate many 1) = List.replicate many (V.int 1) := List.map_replicate ..
          rw [this]
          exact upd_tup
        · rw [decide_eq_true rfl]
          exact q _
      · rw [decide_eq_false (show ¬ 1999 + ((many : Int) - 1999) ≤ 2000 by omega)]
        refine iteF ?_
        have eo : outT C.moves.length (some (txtR (List.replicate many 1))) = .tuple [.int 1, .int 2001] := outT_bad (long_read h1 (by rw [hl1]; omega))
        rw [eo] at sho ⊢
        refine ⟨by show 2 ≤ sizeLine; decide, fun p1 hp1 => ⟨_, .tuple [.int 1, .int 2001], rfl, dp_two upd_same, sho.sh, sho.nd, Nat.le_trans sho.dp (by decide), sz_line (Nat.le_trans sho.le (by decide)), rfl, ?_⟩⟩
        rw [decide_eq_true rfl]
        exact q _
end
end My

namespace My
open PySem PySem.Spec PyProof.Rows L2
/-- whether a clause for the class C takes an error of the class S -/
theorem exm_of {K : PySem.W.Frag} {S C : Addr} {b : Bool} (base : PySem.W.subIn K (.ref C) (.type "BaseException") = some true) (isCls : PySem.W.isClsIn K C = true)
    (ty : PySem.W.typeIn K (.ref C) = some (.type "type")) (sub : PySem.W.subIn K (.ref S) (.ref C) = some b) : PySem.W.exmOne K (.ref S) (.ref C) = some b := by
  unfold PySem.W.exmOne
  rw [if_pos (by rw [base]; rfl)]
  show (if ((PySem.W.clsIn K C).isSome && PySem.W.typeIn K (.ref C) == some (.type "type")) = true then PySem.W.subIn K (.ref S) (.ref C) else none) = some b
  have h : (PySem.W.clsIn K C).isSome = true := isCls
  rw [if_pos (by rw [h, ty]; rfl)]
  exact sub
set_option maxHeartbeats 0 in
theorem all_mk {l : PySem.W.OpenLaw} {w : World} {K : PySem.W.Frag} {h : Heap} {mg : Str → Option Value} {fa : Addr} (X : K.In h) (G : h.Ns mainGlobals mg) (hfa : mg "law" = some (.ref fa))
    {oc0 kV0 dc0 pm0 cd0 ct0 : Value} {od0 an0 : Option Addr} {sl0 : Array (Option Value)} {f0 : Addr}
    {oc1 kV1 dc1 pm1 cd1 ct1 : Value} {od1 an1 : Option Addr} {sl1 : Array (Option Value)} {f1 : Addr}
    {oc2 kV2 dc2 pm2 cd2 ct2 : Value} {od2 an2 : Option Addr} {sl2 : Array (Option Value)} {f2 : Addr}
    {oc3 kV3 dc3 pm3 cd3 ct3 : Value} {od3 an3 : Option Addr} {sl3 : Array (Option Value)} {f3 : Addr}
    {oc4 kV4 dc4 pm4 cd4 ct4 : Value} {od4 an4 : Option Addr} {sl4 : Array (Option Value)} {f4 : Addr}
    {oc5 kV5 dc5 pm5 cd5 ct5 : Value} {od5 an5 : Option Addr} {sl5 : Array (Option Value)} {f5 : Addr}
    {oc6 kV6 dc6 pm6 cd6 ct6 : Value} {od6 an6 : Option Addr} {sl6 : Array (Option Value)} {f6 : Addr}
    {oc7 kV7 dc7 pm7 cd7 ct7 : Value} {od7 an7 : Option Addr} {sl7 : Array (Option Value)} {f7 : Addr}
    {oc8 kV8 dc8 pm8 cd8 ct8 : Value} {od8 an8 : Option Addr} {sl8 : Array (Option Value)} {f8 : Addr}
    {oc9 kV9 dc9 pm9 cd9 ct9 : Value} {od9 an9 : Option Addr} {sl9 : Array (Option Value)} {f9 : Addr}
    {oc10 kV10 dc10 pm10 cd10 ct10 : Value} {od10 an10 : Option Addr} {sl10 : Array (Option Value)} {f10 : Addr}
    {oc11 kV11 dc11 pm11 cd11 ct11 : Value} {od11 an11 : Option Addr} {sl11 : Array (Option Value)} {f11 : Addr}
    {oc12 kV12 dc12 pm12 cd12 ct12 : Value} {od12 an12 : Option Addr} {sl12 : Array (Option Value)} {f12 : Addr}
    {oc13 kV13 dc13 pm13 cd13 ct13 : Value} {od13 an13 : Option Addr} {sl13 : Array (Option Value)} {f13 : Addr}
    {oc14 kV14 dc14 pm14 cd14 ct14 : Value} {od14 an14 : Option Addr} {sl14 : Array (Option Value)} {f14 : Addr}
    {oc15 kV15 dc15 pm15 cd15 ct15 : Value} {od15 an15 : Option Addr} {sl15 : Array (Option Value)} {f15 : Addr}
    {oc16 kV16 dc16 pm16 cd16 ct16 : Value} {od16 an16 : Option Addr} {sl16 : Array (Option Value)} {f16 : Addr}
    {oc17 kV17 dc17 pm17 cd17 ct17 : Value} {od17 an17 : Option Addr} {sl17 : Array (Option Value)} {f17 : Addr}
    {oc18 kV18 dc18 pm18 cd18 ct18 : Value} {od18 an18 : Option Addr} {sl18 : Array (Option Value)} {f18 : Addr}
    {oc19 kV19 dc19 pm19 cd19 ct19 : Value} {od19 an19 : Option Addr} {sl19 : Array (Option Value)} {f19 : Addr}
    {oc20 kV20 dc20 pm20 cd20 ct20 : Value} {od20 an20 : Option Addr} {sl20 : Array (Option Value)} {f20 : Addr}
    {oc21 kV21 dc21 pm21 cd21 ct21 : Value} {od21 an21 : Option Addr} {sl21 : Array (Option Value)} {f21 : Addr}
    {oc22 kV22 dc22 pm22 cd22 ct22 : Value} {od22 an22 : Option Addr} {sl22 : Array (Option Value)} {f22 : Addr}
    {oc23 kV23 dc23 pm23 cd23 ct23 : Value} {od23 an23 : Option Addr} {sl23 : Array (Option Value)} {f23 : Addr}
    {oc24 kV24 dc24 pm24 cd24 ct24 : Value} {od24 an24 : Option Addr} {sl24 : Array (Option Value)} {f24 : Addr}
    {oc25 kV25 dc25 pm25 cd25 ct25 : Value} {od25 an25 : Option Addr} {sl25 : Array (Option Value)} {f25 : Addr}
    {oc26 kV26 dc26 pm26 cd26 ct26 : Value} {od26 an26 : Option Addr} {sl26 : Array (Option Value)} {f26 : Addr}
    {C0 g0 N0 : Addr} {nmC0 qC0 : Str} {bsC0 subC0 : List Value} {snC0 : List Str} {abC0 : Bool} {colC0 : Option Bool} {ddC0 : Option Addr} {m0C0 m1C0 m2C0 m3C0 m5C0 : Option Value} {ocC0 kVC0 dcC0 pmC0 cdC0 ctC0 : Value} {odC0 anC0 : Option Addr} {slC0 : Array (Option Value)}
    {tMC : Tok}
    {tDG : Tok}
    (a0 : PySem.W.nsIn K mainGlobals "is_integer" = some (some (.ref f0)))
    (l0 : K.lookup f0 = some ⟨oc0, od0, .func (PySem.W.fnOf "is_integer" "is_integer" (defArgs s_is_integer) (defBody s_is_integer) (defScope s_is_integer) .none kV0 dc0 pm0 an0 cd0 ct0), sl0⟩)
    (c0 : PySem.W.codeIn K cd0 "is_integer" = true)
    (k0 : PySem.W.keepIn K (.ref f0) = true)
    (a1 : PySem.W.nsIn K mainGlobals "is_between" = some (some (.ref f1)))
    (l1 : K.lookup f1 = some ⟨oc1, od1, .func (PySem.W.fnOf "is_between" "is_between" (defArgs s_is_between) (defBody s_is_between) (defScope s_is_between) .none kV1 dc1 pm1 an1 cd1 ct1), sl1⟩)
    (c1 : PySem.W.codeIn K cd1 "is_between" = true)
    (k1 : PySem.W.keepIn K (.ref f1) = true)
    (a2 : PySem.W.nsIn K mainGlobals "is_pair" = some (some (.ref f2)))
    (l2 : K.lookup f2 = some ⟨oc2, od2, .func (PySem.W.fnOf "is_pair" "is_pair" (defArgs s_is_pair) (defBody s_is_pair) (defScope s_is_pair) .none kV2 dc2 pm2 an2 cd2 ct2), sl2⟩)
    (c2 : PySem.W.codeIn K cd2 "is_pair" = true)
    (k2 : PySem.W.keepIn K (.ref f2) = true)
    (a3 : PySem.W.nsIn K mainGlobals "is_code" = some (some (.ref f3)))
    (l3 : K.lookup f3 = some ⟨oc3, od3, .func (PySem.W.fnOf "is_code" "is_code" (defArgs s_is_code) (defBody s_is_code) (defScope s_is_code) .none kV3 dc3 pm3 an3 cd3 ct3), sl3⟩)
    (c3 : PySem.W.codeIn K cd3 "is_code" = true)
    (k3 : PySem.W.keepIn K (.ref f3) = true)
    (a4 : PySem.W.nsIn K mainGlobals "need_row" = some (some (.ref f4)))
    (l4 : K.lookup f4 = some ⟨oc4, od4, .func (PySem.W.fnOf "need_row" "need_row" (defArgs s_need_row) (defBody s_need_row) (defScope s_need_row) .none kV4 dc4 pm4 an4 cd4 ct4), sl4⟩)
    (c4 : PySem.W.codeIn K cd4 "need_row" = true)
    (k4 : PySem.W.keepIn K (.ref f4) = true)
    (a5 : PySem.W.nsIn K mainGlobals "need_coder" = some (some (.ref f5)))
    (l5 : K.lookup f5 = some ⟨oc5, od5, .func (PySem.W.fnOf "need_coder" "need_coder" (defArgs s_need_coder) (defBody s_need_coder) (defScope s_need_coder) .none kV5 dc5 pm5 an5 cd5 ct5), sl5⟩)
    (c5 : PySem.W.codeIn K cd5 "need_coder" = true)
    (k5 : PySem.W.keepIn K (.ref f5) = true)
    (a6 : PySem.W.nsIn K mainGlobals "_first_fault" = some (some (.ref f6)))
    (l6 : K.lookup f6 = some ⟨oc6, od6, .func (PySem.W.fnOf "_first_fault" "_first_fault" (defArgs s_first_fault) (defBody s_first_fault) (defScope s_first_fault) .none kV6 dc6 pm6 an6 cd6 ct6), sl6⟩)
    (c6 : PySem.W.codeIn K cd6 "_first_fault" = true)
    (k6 : PySem.W.keepIn K (.ref f6) = true)
    (a7 : PySem.W.nsIn K mainGlobals "_fault_of_steps" = some (some (.ref f7)))
    (l7 : K.lookup f7 = some ⟨oc7, od7, .func (PySem.W.fnOf "_fault_of_steps" "_fault_of_steps" (defArgs s_fault_of_steps) (defBody s_fault_of_steps) (defScope s_fault_of_steps) .none kV7 dc7 pm7 an7 cd7 ct7), sl7⟩)
    (c7 : PySem.W.codeIn K cd7 "_fault_of_steps" = true)
    (k7 : PySem.W.keepIn K (.ref f7) = true)
    (a8 : PySem.W.nsIn K mainGlobals "_fault_of_moves" = some (some (.ref f8)))
    (l8 : K.lookup f8 = some ⟨oc8, od8, .func (PySem.W.fnOf "_fault_of_moves" "_fault_of_moves" (defArgs s_fault_of_moves) (defBody s_fault_of_moves) (defScope s_fault_of_moves) .none kV8 dc8 pm8 an8 cd8 ct8), sl8⟩)
    (c8 : PySem.W.codeIn K cd8 "_fault_of_moves" = true)
    (k8 : PySem.W.keepIn K (.ref f8) = true)
    (a9 : PySem.W.nsIn K mainGlobals "_is_tuple_of" = some (some (.ref f9)))
    (l9 : K.lookup f9 = some ⟨oc9, od9, .func (PySem.W.fnOf "_is_tuple_of" "_is_tuple_of" (defArgs s_is_tuple_of) (defBody s_is_tuple_of) (defScope s_is_tuple_of) .none kV9 dc9 pm9 an9 cd9 ct9), sl9⟩)
    (c9 : PySem.W.codeIn K cd9 "_is_tuple_of" = true)
    (k9 : PySem.W.keepIn K (.ref f9) = true)
    (a10 : PySem.W.nsIn K mainGlobals "_is_move" = some (some (.ref f10)))
    (l10 : K.lookup f10 = some ⟨oc10, od10, .func (PySem.W.fnOf "_is_move" "_is_move" (defArgs s_is_move) (defBody s_is_move) (defScope s_is_move) .none kV10 dc10 pm10 an10 cd10 ct10), sl10⟩)
    (c10 : PySem.W.codeIn K cd10 "_is_move" = true)
    (k10 : PySem.W.keepIn K (.ref f10) = true)
    (a11 : PySem.W.nsIn K mainGlobals "_is_fade" = some (some (.ref f11)))
    (l11 : K.lookup f11 = some ⟨oc11, od11, .func (PySem.W.fnOf "_is_fade" "_is_fade" (defArgs s_is_fade) (defBody s_is_fade) (defScope s_is_fade) .none kV11 dc11 pm11 an11 cd11 ct11), sl11⟩)
    (c11 : PySem.W.codeIn K cd11 "_is_fade" = true)
    (k11 : PySem.W.keepIn K (.ref f11) = true)
    (a12 : PySem.W.nsIn K mainGlobals "row_text" = some (some (.ref f12)))
    (l12 : K.lookup f12 = some ⟨oc12, od12, .func (PySem.W.fnOf "row_text" "row_text" (defArgs s_row_text) (defBody s_row_text) (defScope s_row_text) .none kV12 dc12 pm12 an12 cd12 ct12), sl12⟩)
    (c12 : PySem.W.codeIn K cd12 "row_text" = true)
    (k12 : PySem.W.keepIn K (.ref f12) = true)
    (a13 : PySem.W.nsIn K mainGlobals "read_row" = some (some (.ref f13)))
    (l13 : K.lookup f13 = some ⟨oc13, od13, .func (PySem.W.fnOf "read_row" "read_row" (defArgs s_read_row) (defBody s_read_row) (defScope s_read_row) .none kV13 dc13 pm13 an13 cd13 ct13), sl13⟩)
    (c13 : PySem.W.codeIn K cd13 "read_row" = true)
    (k13 : PySem.W.keepIn K (.ref f13) = true)
    (a14 : PySem.W.nsIn K mainGlobals "_spaced" = some (some (.ref f14)))
    (l14 : K.lookup f14 = some ⟨oc14, od14, .func (PySem.W.fnOf "_spaced" "_spaced" (defArgs s_spaced) (defBody s_spaced) (defScope s_spaced) .none kV14 dc14 pm14 an14 cd14 ct14), sl14⟩)
    (c14 : PySem.W.codeIn K cd14 "_spaced" = true)
    (k14 : PySem.W.keepIn K (.ref f14) = true)
    (a15 : PySem.W.nsIn K mainGlobals "_need_text" = some (some (.ref f15)))
    (l15 : K.lookup f15 = some ⟨oc15, od15, .func (PySem.W.fnOf "_need_text" "_need_text" (defArgs s_need_text) (defBody s_need_text) (defScope s_need_text) .none kV15 dc15 pm15 an15 cd15 ct15), sl15⟩)
    (c15 : PySem.W.codeIn K cd15 "_need_text" = true)
    (k15 : PySem.W.keepIn K (.ref f15) = true)
    (a16 : PySem.W.nsIn K mainGlobals "_need_no_empty_word" = some (some (.ref f16)))
    (l16 : K.lookup f16 = some ⟨oc16, od16, .func (PySem.W.fnOf "_need_no_empty_word" "_need_no_empty_word" (defArgs s_need_no_empty_word) (defBody s_need_no_empty_word) (defScope s_need_no_empty_word) .none kV16 dc16 pm16 an16 cd16 ct16), sl16⟩)
    (c16 : PySem.W.codeIn K cd16 "_need_no_empty_word" = true)
    (k16 : PySem.W.keepIn K (.ref f16) = true)
    (a17 : PySem.W.nsIn K mainGlobals "_is_number" = some (some (.ref f17)))
    (l17 : K.lookup f17 = some ⟨oc17, od17, .func (PySem.W.fnOf "_is_number" "_is_number" (defArgs s_is_number) (defBody s_is_number) (defScope s_is_number) .none kV17 dc17 pm17 an17 cd17 ct17), sl17⟩)
    (c17 : PySem.W.codeIn K cd17 "_is_number" = true)
    (k17 : PySem.W.keepIn K (.ref f17) = true)
    (a18 : PySem.W.nsIn K mainGlobals "_law_begun" = some (some (.ref f18)))
    (l18 : K.lookup f18 = some ⟨oc18, od18, .func (PySem.W.fnOf "_law_begun" "_law_begun" (defArgs s_law_begun) (defBody s_law_begun) (defScope s_law_begun) .none kV18 dc18 pm18 an18 cd18 ct18), sl18⟩)
    (c18 : PySem.W.codeIn K cd18 "_law_begun" = true)
    (k18 : PySem.W.keepIn K (.ref f18) = true)
    (a19 : PySem.W.nsIn K mainGlobals "_law_next" = some (some (.ref f19)))
    (l19 : K.lookup f19 = some ⟨oc19, od19, .func (PySem.W.fnOf "_law_next" "_law_next" (defArgs s_law_next) (defBody s_law_next) (defScope s_law_next) .none kV19 dc19 pm19 an19 cd19 ct19), sl19⟩)
    (c19 : PySem.W.codeIn K cd19 "_law_next" = true)
    (k19 : PySem.W.keepIn K (.ref f19) = true)
    (a20 : PySem.W.nsIn K mainGlobals "_law_coder" = some (some (.ref f20)))
    (l20 : K.lookup f20 = some ⟨oc20, od20, .func (PySem.W.fnOf "_law_coder" "_law_coder" (defArgs s_law_coder) (defBody s_law_coder) (defScope s_law_coder) .none kV20 dc20 pm20 an20 cd20 ct20), sl20⟩)
    (c20 : PySem.W.codeIn K cd20 "_law_coder" = true)
    (k20 : PySem.W.keepIn K (.ref f20) = true)
    (a21 : PySem.W.nsIn K mainGlobals "_law_row" = some (some (.ref f21)))
    (l21 : K.lookup f21 = some ⟨oc21, od21, .func (PySem.W.fnOf "_law_row" "_law_row" (defArgs s_law_row) (defBody s_law_row) (defScope s_law_row) .none kV21 dc21 pm21 an21 cd21 ct21), sl21⟩)
    (c21 : PySem.W.codeIn K cd21 "_law_row" = true)
    (k21 : PySem.W.keepIn K (.ref f21) = true)
    (a22 : PySem.W.nsIn K mainGlobals "_law_outcome" = some (some (.ref f22)))
    (l22 : K.lookup f22 = some ⟨oc22, od22, .func (PySem.W.fnOf "_law_outcome" "_law_outcome" (defArgs s_law_outcome) (defBody s_law_outcome) (defScope s_law_outcome) .none kV22 dc22 pm22 an22 cd22 ct22), sl22⟩)
    (c22 : PySem.W.codeIn K cd22 "_law_outcome" = true)
    (k22 : PySem.W.keepIn K (.ref f22) = true)
    (a23 : PySem.W.nsIn K mainGlobals "_law_due" = some (some (.ref f23)))
    (l23 : K.lookup f23 = some ⟨oc23, od23, .func (PySem.W.fnOf "_law_due" "_law_due" (defArgs s_law_due) (defBody s_law_due) (defScope s_law_due) .none kV23 dc23 pm23 an23 cd23 ct23), sl23⟩)
    (c23 : PySem.W.codeIn K cd23 "_law_due" = true)
    (k23 : PySem.W.keepIn K (.ref f23) = true)
    (a24 : PySem.W.nsIn K mainGlobals "_law_written" = some (some (.ref f24)))
    (l24 : K.lookup f24 = some ⟨oc24, od24, .func (PySem.W.fnOf "_law_written" "_law_written" (defArgs s_law_written) (defBody s_law_written) (defScope s_law_written) .none kV24 dc24 pm24 an24 cd24 ct24), sl24⟩)
    (c24 : PySem.W.codeIn K cd24 "_law_written" = true)
    (k24 : PySem.W.keepIn K (.ref f24) = true)
    (a25 : PySem.W.nsIn K mainGlobals "_law_bent" = some (some (.ref f25)))
    (l25 : K.lookup f25 = some ⟨oc25, od25, .func (PySem.W.fnOf "_law_bent" "_law_bent" (defArgs s_law_bent) (defBody s_law_bent) (defScope s_law_bent) .none kV25 dc25 pm25 an25 cd25 ct25), sl25⟩)
    (c25 : PySem.W.codeIn K cd25 "_law_bent" = true)
    (k25 : PySem.W.keepIn K (.ref f25) = true)
    (a26 : PySem.W.nsIn K mainGlobals "law" = some (some (.ref f26)))
    (l26 : K.lookup f26 = some ⟨oc26, od26, .func (PySem.W.fnOf "law" "law" (defArgs s_law) (defBody s_law) (defScope s_law) .none kV26 dc26 pm26 an26 cd26 ct26), sl26⟩)
    (c26 : PySem.W.codeIn K cd26 "law" = true)
    (k26 : PySem.W.keepIn K (.ref f26) = true)
    (z_all : PySem.W.nsIn K mainGlobals "all" = some none)
    (z_bool : PySem.W.nsIn K mainGlobals "bool" = some none)
    (z_enumerate : PySem.W.nsIn K mainGlobals "enumerate" = some none)
    (z_int : PySem.W.nsIn K mainGlobals "int" = some none)
    (z_isinstance : PySem.W.nsIn K mainGlobals "isinstance" = some none)
    (z_len : PySem.W.nsIn K mainGlobals "len" = some none)
    (z_list : PySem.W.nsIn K mainGlobals "list" = some none)
    (z_min : PySem.W.nsIn K mainGlobals "min" = some none)
    (z_range : PySem.W.nsIn K mainGlobals "range" = some none)
    (z_repr : PySem.W.nsIn K mainGlobals "repr" = some none)
    (z_str : PySem.W.nsIn K mainGlobals "str" = some none)
    (z_tuple : PySem.W.nsIn K mainGlobals "tuple" = some none)
    (aC0 : PySem.W.nsIn K mainGlobals "BadRow" = some (some (.ref C0)))
    (xC0 : K.lookup C0 = some (excClassObj nmC0 qC0 C0 N0 bsC0 [.type "ValueError", .type "Exception", .type "BaseException", .type "object"] true snC0 subC0 abC0 colC0 ddC0 m0C0 m1C0 m2C0 m3C0 m5C0 "ValueError.__new__"))
    (saC0 : PySem.W.findIn K (.ref C0) "__setattr__" = some (some (.builtin "object.__setattr__")))
    (iC0 : PySem.W.findIn K (.ref C0) "__init__" = some (some (.ref g0)))
    (tI0 : PySem.W.typeIn K (.ref g0) = some (.type "function"))
    (lC0 : K.lookup g0 = some ⟨ocC0, odC0, .func (PySem.W.fnOf "__init__" "BadRow.__init__" (defArgs si_BadRow) (defBody si_BadRow) (defScope si_BadRow) .none kVC0 dcC0 pmC0 anC0 cdC0 ctC0), slC0⟩)
    (cC0 : PySem.W.codeIn K cdC0 "BadRow.__init__" = true)
    (kI0 : PySem.W.keepIn K (.ref g0) = true)
    (kC0 : PySem.W.keepIn K (.ref C0) = true)
    (eC0 : PySem.W.subIn K (.ref C0) (.type "BaseException") = some true)
    (tC0 : PySem.W.typeIn K (.ref C0) = some (.type "type"))
    (isC0 : PySem.W.isClsIn K C0 = true)
    (sC0 : PySem.W.subIn K (.ref C0) (.ref C0) = some true)
    (gaC0 : PySem.W.findIn K (.ref C0) "__getattribute__" = some (some (.builtin "BaseException.__getattribute__")))
    (ggC0 : PySem.W.findIn K (.ref C0) "__getattr__" = some none)
    (hdC0 : PySem.W.hasDictIn K C0 = true)
    (nC0row : PySem.W.findIn K (.ref C0) "row" = some none)
    (nC0word : PySem.W.findIn K (.ref C0) "word" = some none)
    (vV : PySem.W.findCls K (.type "ValueError") (.type "type") "__init__" = some (.val (.builtin "ValueError.__init__")))
    (zV : PySem.W.nsIn K mainGlobals "ValueError" = some none)
    (mc : PySem.W.nsIn K mainGlobals "MOST_CODES" = some (some (.int 2000 tMC)))
    (dg : PySem.W.nsIn K mainGlobals "DIGITS" = some (some (.str "0123456789" tDG))) :
    ∃ fd : FuncData, (∀ (s : Shared) (v : Value), BindsTo s fd ⟨[v], []⟩ [("script", v)]) ∧ ∀ base : Heap, K.In base → base.Ns mainGlobals mg → FnG l.prog w K mg base 10 fa fd ["script"] (sp_law (K := K)) := by
  have e := hfa.symm.trans (PySem.W.mg_of X G a26)
  cases e
  have F0 := fun_mk (st := s_is_integer) l0 c0 k0
  have B0 := F0.binds (ps := ["thing"]) fun _ _ _ _ _ _ us hl => match us, hl with | [_], _ => rfl
  have F1 := fun_mk (st := s_is_between) l1 c1 k1
  have B1 := F1.binds (ps := ["thing", "least", "most"]) fun _ _ _ _ _ _ us hl => match us, hl with | [_, _, _], _ => rfl
  have F2 := fun_mk (st := s_is_pair) l2 c2 k2
  have B2 := F2.binds (ps := ["thing"]) fun _ _ _ _ _ _ us hl => match us, hl with | [_], _ => rfl
  have F3 := fun_mk (st := s_is_code) l3 c3 k3
  have B3 := F3.binds (ps := ["coder", "thing"]) fun _ _ _ _ _ _ us hl => match us, hl with | [_, _], _ => rfl
  have F4 := fun_mk (st := s_need_row) l4 c4 k4
  have B4 := F4.binds (ps := ["coder", "thing"]) fun _ _ _ _ _ _ us hl => match us, hl with | [_, _], _ => rfl
  have F5 := fun_mk (st := s_need_coder) l5 c5 k5
  have B5 := F5.binds (ps := ["thing"]) fun _ _ _ _ _ _ us hl => match us, hl with | [_], _ => rfl
  have F6 := fun_mk (st := s_first_fault) l6 c6 k6
  have B6 := F6.binds (ps := ["thing"]) fun _ _ _ _ _ _ us hl => match us, hl with | [_], _ => rfl
  have F7 := fun_mk (st := s_fault_of_steps) l7 c7 k7
  have B7 := F7.binds (ps := ["steps"]) fun _ _ _ _ _ _ us hl => match us, hl with | [_], _ => rfl
  have F8 := fun_mk (st := s_fault_of_moves) l8 c8 k8
  have B8 := F8.binds (ps := ["moves"]) fun _ _ _ _ _ _ us hl => match us, hl with | [_], _ => rfl
  have F9 := fun_mk (st := s_is_tuple_of) l9 c9 k9
  have B9 := F9.binds (ps := ["thing", "least", "most"]) fun _ _ _ _ _ _ us hl => match us, hl with | [_, _, _], _ => rfl
  have F10 := fun_mk (st := s_is_move) l10 c10 k10
  have B10 := F10.binds (ps := ["thing"]) fun _ _ _ _ _ _ us hl => match us, hl with | [_], _ => rfl
  have F11 := fun_mk (st := s_is_fade) l11 c11 k11
  have B11 := F11.binds (ps := ["thing"]) fun _ _ _ _ _ _ us hl => match us, hl with | [_], _ => rfl
  have F12 := fun_mk (st := s_row_text) l12 c12 k12
  have B12 := F12.binds (ps := ["coder", "row"]) fun _ _ _ _ _ _ us hl => match us, hl with | [_, _], _ => rfl
  have F13 := fun_mk (st := s_read_row) l13 c13 k13
  have B13 := F13.binds (ps := ["coder", "text"]) fun _ _ _ _ _ _ us hl => match us, hl with | [_, _], _ => rfl
  have F14 := fun_mk (st := s_spaced) l14 c14 k14
  have B14 := F14.binds (ps := ["numbers"]) fun _ _ _ _ _ _ us hl => match us, hl with | [_], _ => rfl
  have F15 := fun_mk (st := s_need_text) l15 c15 k15
  have B15 := F15.binds (ps := ["thing"]) fun _ _ _ _ _ _ us hl => match us, hl with | [_], _ => rfl
  have F16 := fun_mk (st := s_need_no_empty_word) l16 c16 k16
  have B16 := F16.binds (ps := ["row", "words"]) fun _ _ _ _ _ _ us hl => match us, hl with | [_, _], _ => rfl
  have F17 := fun_mk (st := s_is_number) l17 c17 k17
  have B17 := F17.binds (ps := ["word"]) fun _ _ _ _ _ _ us hl => match us, hl with | [_], _ => rfl
  have F18 := fun_mk (st := s_law_begun) l18 c18 k18
  have B18 := F18.binds (ps := ["script"]) fun _ _ _ _ _ _ us hl => match us, hl with | [_], _ => rfl
  have F19 := fun_mk (st := s_law_next) l19 c19 k19
  have B19 := F19.binds (ps := ["m", "many"]) fun _ _ _ _ _ _ us hl => match us, hl with | [_, _], _ => rfl
  have F20 := fun_mk (st := s_law_coder) l20 c20 k20
  have B20 := F20.binds (ps := ["m", "wide", "places", "codes"]) fun _ _ _ _ _ _ us hl => match us, hl with | [_, _, _, _], _ => rfl
  have F21 := fun_mk (st := s_law_row) l21 c21 k21
  have B21 := F21.binds (ps := ["m", "coder", "many"]) fun _ _ _ _ _ _ us hl => match us, hl with | [_, _, _], _ => rfl
  have F22 := fun_mk (st := s_law_outcome) l22 c22 k22
  have B22 := F22.binds (ps := ["coder", "text"]) fun _ _ _ _ _ _ us hl => match us, hl with | [_, _], _ => rfl
  have F23 := fun_mk (st := s_law_due) l23 c23 k23
  have B23 := F23.binds (ps := ["coder", "text"]) fun _ _ _ _ _ _ us hl => match us, hl with | [_, _], _ => rfl
  have F24 := fun_mk (st := s_law_written) l24 c24 k24
  have B24 := F24.binds (ps := ["coder", "row"]) fun _ _ _ _ _ _ us hl => match us, hl with | [_, _], _ => rfl
  have F25 := fun_mk (st := s_law_bent) l25 c25 k25
  have B25 := F25.binds (ps := ["m", "text"]) fun _ _ _ _ _ _ us hl => match us, hl with | [_, _], _ => rfl
  have F26 := fun_mk (st := s_law) l26 c26 k26
  have B26 := F26.binds (ps := ["script"]) fun _ _ _ _ _ _ us hl => match us, hl with | [_], _ => rfl
  have FI0 := fun_mk (st := si_BadRow) lC0 cC0 kI0
  have BI0 := FI0.binds (ps := ["self", "row", "word"]) fun _ _ _ _ _ _ us hl => match us, hl with | [_, _, _], _ => rfl
  let T : Txt K mg := {
    f_is_integer := f0, d_is_integer := _, F_is_integer := F0, b_is_integer := B0, g_is_integer := PySem.W.mg_of X G a0,
    f_is_between := f1, d_is_between := _, F_is_between := F1, b_is_between := B1, g_is_between := PySem.W.mg_of X G a1,
    f_is_pair := f2, d_is_pair := _, F_is_pair := F2, b_is_pair := B2, g_is_pair := PySem.W.mg_of X G a2,
    f_is_code := f3, d_is_code := _, F_is_code := F3, b_is_code := B3, g_is_code := PySem.W.mg_of X G a3,
    f_need_row := f4, d_need_row := _, F_need_row := F4, b_need_row := B4, g_need_row := PySem.W.mg_of X G a4,
    f_need_coder := f5, d_need_coder := _, F_need_coder := F5, b_need_coder := B5, g_need_coder := PySem.W.mg_of X G a5,
    f__first_fault := f6, d__first_fault := _, F__first_fault := F6, b__first_fault := B6, g__first_fault := PySem.W.mg_of X G a6,
    f__fault_of_steps := f7, d__fault_of_steps := _, F__fault_of_steps := F7, b__fault_of_steps := B7, g__fault_of_steps := PySem.W.mg_of X G a7,
    f__fault_of_moves := f8, d__fault_of_moves := _, F__fault_of_moves := F8, b__fault_of_moves := B8, g__fault_of_moves := PySem.W.mg_of X G a8,
    f__is_tuple_of := f9, d__is_tuple_of := _, F__is_tuple_of := F9, b__is_tuple_of := B9, g__is_tuple_of := PySem.W.mg_of X G a9,
    f__is_move := f10, d__is_move := _, F__is_move := F10, b__is_move := B10, g__is_move := PySem.W.mg_of X G a10,
    f__is_fade := f11, d__is_fade := _, F__is_fade := F11, b__is_fade := B11, g__is_fade := PySem.W.mg_of X G a11,
    f_row_text := f12, d_row_text := _, F_row_text := F12, b_row_text := B12, g_row_text := PySem.W.mg_of X G a12,
    f_read_row := f13, d_read_row := _, F_read_row := F13, b_read_row := B13, g_read_row := PySem.W.mg_of X G a13,
    f__spaced := f14, d__spaced := _, F__spaced := F14, b__spaced := B14, g__spaced := PySem.W.mg_of X G a14,
    f__need_text := f15, d__need_text := _, F__need_text := F15, b__need_text := B15, g__need_text := PySem.W.mg_of X G a15,
    f__need_no_empty_word := f16, d__need_no_empty_word := _, F__need_no_empty_word := F16, b__need_no_empty_word := B16, g__need_no_empty_word := PySem.W.mg_of X G a16,
    f__is_number := f17, d__is_number := _, F__is_number := F17, b__is_number := B17, g__is_number := PySem.W.mg_of X G a17,
    f__law_begun := f18, d__law_begun := _, F__law_begun := F18, b__law_begun := B18, g__law_begun := PySem.W.mg_of X G a18,
    f__law_next := f19, d__law_next := _, F__law_next := F19, b__law_next := B19, g__law_next := PySem.W.mg_of X G a19,
    f__law_coder := f20, d__law_coder := _, F__law_coder := F20, b__law_coder := B20, g__law_coder := PySem.W.mg_of X G a20,
    f__law_row := f21, d__law_row := _, F__law_row := F21, b__law_row := B21, g__law_row := PySem.W.mg_of X G a21,
    f__law_outcome := f22, d__law_outcome := _, F__law_outcome := F22, b__law_outcome := B22, g__law_outcome := PySem.W.mg_of X G a22,
    f__law_due := f23, d__law_due := _, F__law_due := F23, b__law_due := B23, g__law_due := PySem.W.mg_of X G a23,
    f__law_written := f24, d__law_written := _, F__law_written := F24, b__law_written := B24, g__law_written := PySem.W.mg_of X G a24,
    f__law_bent := f25, d__law_bent := _, F__law_bent := F25, b__law_bent := B25, g__law_bent := PySem.W.mg_of X G a25,
    f_law := fa, d_law := _, F_law := F26, b_law := B26, g_law := hfa,
    z_all := PySem.W.mg_none_of X G z_all,
    z_bool := PySem.W.mg_none_of X G z_bool,
    z_enumerate := PySem.W.mg_none_of X G z_enumerate,
    z_int := PySem.W.mg_none_of X G z_int,
    z_isinstance := PySem.W.mg_none_of X G z_isinstance,
    z_len := PySem.W.mg_none_of X G z_len,
    z_list := PySem.W.mg_none_of X G z_list,
    z_min := PySem.W.mg_none_of X G z_min,
    z_range := PySem.W.mg_none_of X G z_range,
    z_repr := PySem.W.mg_none_of X G z_repr,
    z_str := PySem.W.mg_none_of X G z_str,
    z_tuple := PySem.W.mg_none_of X G z_tuple,
    x_BadRow := ⟨gaC0, ggC0, eC0, hdC0⟩, n_BadRow_row := nC0row, n_BadRow_word := nC0word,
    C_BadRow := C0, fi_BadRow := g0, di_BadRow := _, g_BadRow := PySem.W.mg_of X G aC0, o_BadRow := ⟨⟨_, _, _, _, _, _, _, _, _, _, _, _, _, _, _, xC0, by decide +kernel⟩, saC0, eC0, tC0, kC0⟩, i_BadRow := iC0, t_BadRow := tI0, Fi_BadRow := FI0, bi_BadRow := BI0, e_BadRow := exm_of eC0 isC0 tC0 sC0,
    vV := vV, zV := PySem.W.mg_none_of X G zV,
    t_MOST_CODES := tMC, g_MOST_CODES := PySem.W.mg_of X G mc,
    t_DIGITS := tDG, g_DIGITS := PySem.W.mg_of X G dg }
  exact ⟨_, fun s v => .of_eq rfl, fun base _ _ => ok_law T⟩
end My
open PySem PySem.W PyProof.Rows
set_option maxRecDepth 100000 in
set_option maxHeartbeats 0 in
theorem PySem.Challenge.cw_stepsound_k27_whole_texts_of_rows_holds : PySem.Challenge.rw_stepsound_k27_whole_texts_of_rows.Holds := by
  w_on; o_law; k_head; (case hw => w_witness2)
  k_fill
  refine My.walk_ofG (l := PySem.Challenge.rw_stepsound_k27_whole_texts_of_rows) (n := 63) (k := 10) (x := "script") (sp := fun K => My.sp_law (K := K)) rfl (by decide) rfl ⟨rfl, by decide, by decide⟩ (fun w h Y => PySem.W.kIn_of Y) ?F (fun K H a ns hl _ hS => ⟨a, ns, rfl, hS, hl, fun _ => rfl⟩)
  case F =>
    intro w mg fa h KX G hmg
    refine' My.all_mk KX G hmg ?a0 ?l0 ?c0 ?k0 ?a1 ?l1 ?c1 ?k1 ?a2 ?l2 ?c2 ?k2 ?a3 ?l3 ?c3 ?k3 ?a4 ?l4 ?c4 ?k4 ?a5 ?l5 ?c5 ?k5 ?a6 ?l6 ?c6 ?k6 ?a7 ?l7 ?c7 ?k7 ?a8 ?l8 ?c8 ?k8 ?a9 ?l9 ?c9 ?k9 ?a10 ?l10 ?c10 ?k10 ?a11 ?l11 ?c11 ?k11 ?a12 ?l12 ?c12 ?k12 ?a13 ?l13 ?c13 ?k13 ?a14 ?l14 ?c14 ?k14 ?a15 ?l15 ?c15 ?k15 ?a16 ?l16 ?c16 ?k16 ?a17 ?l17 ?c17 ?k17 ?a18 ?l18 ?c18 ?k18 ?a19 ?l19 ?c19 ?k19 ?a20 ?l20 ?c20 ?k20 ?a21 ?l21 ?c21 ?k21 ?a22 ?l22 ?c22 ?k22 ?a23 ?l23 ?c23 ?k23 ?a24 ?l24 ?c24 ?k24 ?a25 ?l25 ?c25 ?k25 ?a26 ?l26 ?c26 ?k26 ?z_all ?z_bool ?z_enumerate ?z_int ?z_isinstance ?z_len ?z_list ?z_min ?z_range ?z_repr ?z_str ?z_tuple ?aC0 ?xC0 ?saC0 ?iC0 ?tI0 ?lC0 ?cC0 ?kI0 ?kC0 ?eC0 ?tC0 ?isC0 ?sC0 ?gaC0 ?ggC0 ?hdC0 ?nC0row ?nC0word ?vV ?zV ?mc ?dg
    (case a0 => k_is)
    (case l0 => k_is)
    (case c0 => k_is)
    (case k0 => k_is)
    (case a1 => k_is)
    (case l1 => k_is)
    (case c1 => k_is)
    (case k1 => k_is)
    (case a2 => k_is)
    (case l2 => k_is)
    (case c2 => k_is)
    (case k2 => k_is)
    (case a3 => k_is)
    (case l3 => k_is)
    (case c3 => k_is)
    (case k3 => k_is)
    (case a4 => k_is)
    (case l4 => k_is)
    (case c4 => k_is)
    (case k4 => k_is)
    (case a5 => k_is)
    (case l5 => k_is)
    (case c5 => k_is)
    (case k5 => k_is)
    (case a6 => k_is)
    (case l6 => k_is)
    (case c6 => k_is)
    (case k6 => k_is)
    (case a7 => k_is)
    (case l7 => k_is)
    (case c7 => k_is)
    (case k7 => k_is)
    (case a8 => k_is)
    (case l8 => k_is)
    (case c8 => k_is)
    (case k8 => k_is)
    (case a9 => k_is)
    (case l9 => k_is)
    (case c9 => k_is)
    (case k9 => k_is)
    (case a10 => k_is)
    (case l10 => k_is)
    (case c10 => k_is)
    (case k10 => k_is)
    (case a11 => k_is)
    (case l11 => k_is)
    (case c11 => k_is)
    (case k11 => k_is)
    (case a12 => k_is)
    (case l12 => k_is)
    (case c12 => k_is)
    (case k12 => k_is)
    (case a13 => k_is)
    (case l13 => k_is)
    (case c13 => k_is)
    (case k13 => k_is)
    (case a14 => k_is)
    (case l14 => k_is)
    (case c14 => k_is)
    (case k14 => k_is)
    (case a15 => k_is)
    (case l15 => k_is)
    (case c15 => k_is)
    (case k15 => k_is)
    (case a16 => k_is)
    (case l16 => k_is)
    (case c16 => k_is)
    (case k16 => k_is)
    (case a17 => k_is)
    (case l17 => k_is)
    (case c17 => k_is)
    (case k17 => k_is)
    (case a18 => k_is)
    (case l18 => k_is)
    (case c18 => k_is)
    (case k18 => k_is)
    (case a19 => k_is)
    (case l19 => k_is)
    (case c19 => k_is)
    (case k19 => k_is)
    (case a20 => k_is)
    (case l20 => k_is)
    (case c20 => k_is)
    (case k20 => k_is)
    (case a21 => k_is)
    (case l21 => k_is)
    (case c21 => k_is)
    (case k21 => k_is)
    (case a22 => k_is)
    (case l22 => k_is)
    (case c22 => k_is)
    (case k22 => k_is)
    (case a23 => k_is)
    (case l23 => k_is)
    (case c23 => k_is)
    (case k23 => k_is)
    (case a24 => k_is)
    (case l24 => k_is)
    (case c24 => k_is)
    (case k24 => k_is)
    (case a25 => k_is)
    (case l25 => k_is)
    (case c25 => k_is)
    (case k25 => k_is)
    (case a26 => k_is)
    (case l26 => k_is)
    (case c26 => k_is)
    (case k26 => k_is)
    (case z_all => k_is)
    (case z_bool => k_is)
    (case z_enumerate => k_is)
    (case z_int => k_is)
    (case z_isinstance => k_is)
    (case z_len => k_is)
    (case z_list => k_is)
    (case z_min => k_is)
    (case z_range => k_is)
    (case z_repr => k_is)
    (case z_str => k_is)
    (case z_tuple => k_is)
    (case aC0 => k_is)
    (case xC0 => k_is)
    (case saC0 => k_is)
    (case iC0 => k_is)
    (case tI0 => k_is)
    (case lC0 => k_is)
    (case cC0 => k_is)
    (case kI0 => k_is)
    (case kC0 => k_is)
    (case eC0 => k_is)
    (case tC0 => k_is)
    (case isC0 => k_is)
    (case sC0 => first | rfl | k_is | decide +kernel)
    (case gaC0 => k_is)
    (case ggC0 => k_is)
    (case hdC0 => k_is)
    (case nC0row => k_is)
    (case nC0word => k_is)
    (case vV => first | rfl | k_is | decide +kernel)
    (case zV => k_is)
    (case mc => k_is)
    (case dg => k_is)


