package tests

import (
	"fmt"
	"math/rand/v2"
	"slices"
	"testing"

	"loop.example/g03221/impl"
)

// checkNoTerms: for a terminology that is not valid, there are zero values.
func checkNoTerms(t *testing.T, y impl.Terminology, label string) {
	t.Helper()
	f, good := parse(t, house), impl.SampleTerminology("merging")
	for _, k := range typesUpTo(1) {
		term, ok := impl.TermFor(y, k)
		expect(t, term == "" && !ok, true, "TermFor: %s", label)
	}
	for n := range 5 {
		for ego := range 3 {
			expect(t, len(impl.TermTable(y, ego, n)), 0, "TermTable: %s", label)
			for _, term := range []string{"father", "kin", ""} {
				expect(t, len(impl.TypesCalled(y, ego, n, term)), 0, "TypesCalled: %s", label)
			}
		}
		expect(t, len(impl.TermsBetween(f, y, cain, adam, n)), 0, "TermsBetween: %s", label)
		expect(t, len(impl.PeopleCalled(f, y, cain, "father", n)), 0, "PeopleCalled: %s", label)
		expect(t, impl.IsReciprocal(y, n), false, "IsReciprocal: %s", label)
		expect(t, impl.SameDivision(y, y, n) || impl.SameDivision(y, good, n) || impl.SameDivision(good, y, n), false, "SameDivision: %s", label)
	}
	term, ok := impl.AddressTerm(f, y, cain, adam)
	expect(t, term == "" && !ok, true, "AddressTerm: %s", label)
	expect(t, impl.FormatTerminology(y), "", "FormatTerminology: %s", label)
}

func TestP13TerminologiesThatAreNotValid(t *testing.T) {
	for label, y := range notTerminologies(t) {
		checkNoTerms(t, y, label)
	}
}

func TestP13TermForOfTypesThatAreNotValid(t *testing.T) {
	y := terminology(t, "rule fb: FB -> F; term . self; term F father; term m:. him; term B brother")
	for label, k := range notTypes() {
		for _, k := range []impl.KinType{k, {Ego: k.Ego, Steps: slices.Concat(looseType("FB").Steps, k.Steps)}} {
			if wantType(k) {
				continue
			}
			for _, y := range []impl.Terminology{y, {}} {
				term, ok := impl.TermFor(y, k)
				expect(t, term == "" && !ok, true, "TermFor: %s", label)
			}
		}
	}
}

// checkNobody: for a family that is not valid, or a person who is not one of it, there are zero values.
func checkNobody(t *testing.T, f impl.Family, a int, b int, label string) {
	t.Helper()
	y := terminology(t, "term . self; term F kin; term M kin; term B kin; term Z kin; term S kin; term D kin; term H kin; term W kin")
	for n := -1; n < 5; n++ {
		expect(t, len(impl.TermsBetween(f, y, a, b, n)), 0, "TermsBetween %s", label)
	}
	term, ok := impl.AddressTerm(f, y, a, b)
	expect(t, term == "" && !ok, true, "AddressTerm %s", label)
}

func TestP13TermsOfNobody(t *testing.T) {
	f := parse(t, house)
	y := terminology(t, "term F kin; term S kin; term W kin; term H kin")
	for _, p := range []int{-1, -2, len(f.People), 40, 64, lowest, highest} {
		label := fmt.Sprint("of ", p)
		checkNobody(t, f, p, adam, label)
		checkNobody(t, f, adam, p, label)
		checkNobody(t, f, p, p, label)
		for n := -1; n < 5; n++ {
			expect(t, len(impl.PeopleCalled(f, y, p, "kin", n)), 0, "PeopleCalled %s", label)
		}
	}
	checkNobody(t, impl.Family{}, 0, 0, "in the empty family")
	expect(t, len(impl.PeopleCalled(impl.Family{}, y, 0, "kin", 1)), 0, "PeopleCalled in the empty family")
}

func TestP13TermsInFamiliesThatAreNotValid(t *testing.T) {
	y := terminology(t, "term F kin; term S kin; term W kin; term H kin")
	for i, f := range notFamilies(t) {
		label := fmt.Sprint("after change ", i)
		checkNobody(t, f, adam, adam, label)
		checkNobody(t, f, adam, eva, label)
		checkNobody(t, f, 10, adam, label)
		for p := range f.People {
			expect(t, len(impl.PeopleCalled(f, y, p, "kin", 2)), 0, "PeopleCalled %s", label)
		}
	}
}

func TestP13FindRulesOfWhatIsNotValid(t *testing.T) {
	good := rule(t, "good: FB -> F")
	checkNone := func(catalog []impl.Rule, same []impl.TypePair, apart []impl.TypePair, label string) {
		found, ok := impl.FindRules(catalog, same, apart)
		expect(t, !ok && len(found) == 0, true, "FindRules: %s", label)
	}
	for label, r := range notRules(t) {
		for _, catalog := range [][]impl.Rule{{r}, {good, r}, {r, good}} {
			checkNone(catalog, nil, nil, label)
			checkNone(catalog, pairList(t, "FB F"), nil, label)
			checkNone(catalog, nil, pairList(t, "FB F"), label)
		}
	}
	checkNone([]impl.Rule{good, rule(t, "bs: BS -> S"), good}, nil, nil, "a name twice")
	checkNone(slices.Repeat(namedRules(t, 2), 50000), nil, nil, "very many rules")
	for label, k := range notTypes() {
		for _, p := range []impl.TypePair{{A: k, B: k}, {A: k}, {B: k}} {
			wrong := []impl.TypePair{{}, p}
			for _, catalog := range [][]impl.Rule{nil, {good}} {
				checkNone(catalog, wrong, nil, label)
				checkNone(catalog, nil, wrong[1:], label)
				checkNone(catalog, pairList(t, "FB F"), wrong[1:], label)
				checkNone(catalog, wrong, pairList(t, "FB F"), label)
			}
		}
	}
}

func roomyTerminology(y impl.Terminology) impl.Terminology {
	entries := []impl.Entry{}
	for _, e := range y.Entries {
		entries = append(entries, impl.Entry{Type: roomyType(e.Type), Term: e.Term})
	}
	return impl.Terminology{Rules: roomyRules(y.Rules), Entries: roomy(entries, impl.Entry{Term: "mark"})}
}

// terminologyWithRoom shows a terminology and the room behind its lists.
func terminologyWithRoom(y impl.Terminology) string {
	lists := [][]impl.Step{}
	for _, e := range y.Entries {
		lists = append(lists, e.Type.Steps[:cap(e.Type.Steps)])
	}
	return rulesWithRoom(y.Rules) + fmt.Sprint(y.Entries[:cap(y.Entries)], lists)
}

func roomyPairs(pairs []impl.TypePair) []impl.TypePair {
	list := []impl.TypePair{}
	for _, p := range pairs {
		list = append(list, impl.TypePair{A: roomyType(p.A), B: roomyType(p.B)})
	}
	return roomy(list, impl.TypePair{A: impl.KinType{Ego: 77}})
}

func pairsWithRoom(pairs []impl.TypePair) string {
	text := fmt.Sprint(pairs[:cap(pairs)])
	for _, p := range pairs {
		text += fmt.Sprint(p.A.Steps[:cap(p.A.Steps)], p.B.Steps[:cap(p.B.Steps)])
	}
	return text
}

// askTerms gives a terminology to all functions, and returns the types that come out, and what else comes out.
func askTerms(f impl.Family, y impl.Terminology, k impl.KinType, a int, b int) ([]impl.KinType, string) {
	types, answers := []impl.KinType{}, []any{impl.IsTerminology(y), impl.FormatTerminology(y), impl.IsReciprocal(y, 2), impl.SameDivision(y, y, 1)}
	term, ok := impl.TermFor(y, k)
	address, isAddress := impl.AddressTerm(f, y, a, b)
	answers = append(answers, term, ok, address, isAddress)
	for n := 1; n <= 3; n++ {
		for _, e := range impl.TermTable(y, 1+n%2, n) {
			types = append(types, e.Type)
			answers = append(answers, e.Term)
		}
		types = append(types, impl.TypesCalled(y, 1+n%2, n, "kin")...)
		answers = append(answers, impl.TermsBetween(f, y, a, b, n), impl.PeopleCalled(f, y, a, "kin", n))
	}
	z, read := impl.ParseTerminology(impl.FormatTerminology(y))
	for _, e := range z.Entries {
		types = append(types, e.Type)
	}
	return types, fmt.Sprint(append(answers, read)...)
}

func TestP13TerminologiesAreKept(t *testing.T) {
	r := newChance(94)
	check := func(y impl.Terminology, label string) {
		y = roomyTerminology(y)
		f, k := roomyFamily(kinFamily(r, 1+r.IntN(10))), roomyType(typeWithParts(r, impl.SampleRules("merging")))
		all := func() string {
			return terminologyWithRoom(y) + fmt.Sprint(f.People[:cap(f.People)], f.Unions[:cap(f.Unions)], k, k.Steps[:cap(k.Steps)])
		}
		before := all()
		askTerms(f, y, k, r.IntN(len(f.People)), r.IntN(len(f.People)))
		expect(t, all() == before, true, "arguments and the room behind them: %s", label)
	}
	for _, y := range someTerminologies(t, r, 60) {
		check(y, fmt.Sprint(y))
	}
	for label, y := range notTerminologies(t) {
		check(y, label)
	}
}

func TestP13CatalogsAreKept(t *testing.T) {
	r := newChance(95)
	for range 200 {
		catalog, same, apart := chanceProblem(r)
		catalog, same, apart = roomyRules(catalog), roomyPairs(same), roomyPairs(apart)
		all := func() string { return rulesWithRoom(catalog) + pairsWithRoom(same) + pairsWithRoom(apart) }
		before := all()
		found, ok := impl.FindRules(catalog, same, apart)
		expect(t, all(), before, "arguments and the room behind them")
		want := fmt.Sprint(found)
		spoil(found)
		expect(t, all(), before, "the arguments after the result was changed")
		again, isAgain := impl.FindRules(catalog, same, apart)
		expect(t, fmt.Sprint(again), want, "the result after another one was changed")
		expect(t, isAgain, ok, "the same result each time")
	}
}

func TestP13TermsAreNew(t *testing.T) {
	r := newChance(96)
	for _, y := range someTerminologies(t, r, 60) {
		f, k := kinFamily(r, 1+r.IntN(10)), typeWithParts(r, y.Rules)
		a, b := r.IntN(len(f.People)), r.IntN(len(f.People))
		before := fmt.Sprint(f, y, k)
		types, answers := askTerms(f, y, k, a, b)
		want := fmt.Sprint(types)
		lists := [][]impl.Step{}
		for _, u := range types {
			lists = append(lists, u.Steps)
		}
		expect(t, writeSteps(lists), true, "results that share no memory, for %v", y)
		for n := 1; n <= 3; n++ {
			table, called := impl.TermTable(y, 1, n), impl.TypesCalled(y, 1, n, "kin")
			terms := impl.TermsBetween(f, y, a, b, n)
			clear(table[:cap(table)])
			clear(called[:cap(called)])
			clear(terms[:cap(terms)])
			spoil(impl.PeopleCalled(f, y, a, "kin", n))
		}
		expect(t, fmt.Sprint(f, y, k), before, "the arguments after the results were changed")
		again, answersAgain := askTerms(f, y, k, a, b)
		expect(t, fmt.Sprint(again), want, "the types after others were changed")
		expect(t, answersAgain, answers, "the answers after others were changed")
	}
}

func TestP13TerminologiesThatAreReadAreNew(t *testing.T) {
	text := impl.FormatTerminology(impl.SampleTerminology("skewing"))
	ask := func() []impl.Terminology {
		y, _ := impl.ParseTerminology(text)
		z, _ := impl.ParseTerminology(text)
		return []impl.Terminology{y, z, impl.SampleTerminology("skewing"), impl.SampleTerminology("skewing"), impl.SampleTerminology("merging")}
	}
	list := ask()
	want := fmt.Sprint(list)
	lists := [][]impl.Step{}
	for _, y := range list {
		for _, r := range y.Rules {
			lists = append(lists, r.From, r.To)
		}
		for _, e := range y.Entries {
			lists = append(lists, e.Type.Steps)
		}
	}
	expect(t, writeSteps(lists), true, "terminologies that share no memory")
	for _, y := range list {
		clear(y.Rules[:cap(y.Rules)])
		clear(y.Entries[:cap(y.Entries)])
	}
	expect(t, fmt.Sprint(ask()), want, "the terminologies after others were changed")
}

func TestP13TermsAreTheSameEachTime(t *testing.T) {
	r := newChance(97)
	for _, y := range someTerminologies(t, r, 60) {
		f, k := kinFamily(r, 1+r.IntN(10)), typeWithParts(r, y.Rules)
		a, b := r.IntN(len(f.People)), r.IntN(len(f.People))
		types, answers := askTerms(f, y, k, a, b)
		for range 3 {
			again, answersAgain := askTerms(roomyFamily(f), roomyTerminology(y), roomyType(k), a, b)
			expect(t, again, types, "types")
			expect(t, answersAgain, answers, "answers")
		}
	}
}

func junkTerminology(r *rand.Rand) impl.Terminology {
	y := chanceTerminology(r)
	for i := range y.Rules {
		if r.IntN(20) == 0 {
			y.Rules[i] = junkRule(r, i)
		}
	}
	for i := range y.Entries {
		switch r.IntN(60) {
		case 0:
			y.Entries[i].Term = []string{"", "A", "\xff", "a b", "thirteenbytes", "ok"}[r.IntN(6)]
		case 1:
			y.Entries[i].Type = junkType(r)
		}
	}
	return y
}

// TestP13TermsNoPanic gives functions terminologies, types, persons and numbers that are far from valid.
func TestP13TermsNoPanic(t *testing.T) {
	r := newChance(98)
	house := parse(t, house)
	numbers := []int{lowest, -1, 0, 1, 2, 3, 4, 10, 11, 40, 64, highest}
	number := func() int { return numbers[r.IntN(len(numbers))] }
	valid := 0
	for range 800 {
		y, z, k := junkTerminology(r), junkTerminology(r), junkType(r)
		f := copyOf(house)
		if r.IntN(3) == 0 {
			f.People[r.IntN(11)].Father = number()
		}
		if wantTerminology(y) {
			valid++
		}
		expect(t, impl.IsTerminology(y), wantTerminology(y), "IsTerminology %v", y)
		expect(t, impl.FormatTerminology(y), wantTerminologyText(y), "FormatTerminology %v", y)
		term, ok := impl.TermFor(y, k)
		want, wantOk := wantTermFor(y, k)
		expect(t, term == want && ok == wantOk, true, "TermFor %v by %v", k, y)
		types, _ := askTerms(f, y, k, number(), number())
		for _, u := range types {
			expect(t, wantType(u), true, "a result for %v", y)
		}
		n, ego := number(), number()
		expect(t, impl.TermTable(y, ego, n), wantTermTable(y, ego, n), "TermTable %d %d of %v", ego, n, y)
		expect(t, impl.TypesCalled(y, ego, n, ""), wantTypesCalled(y, ego, n, ""), "TypesCalled %d %d of %v", ego, n, y)
		expect(t, impl.IsReciprocal(y, n), wantReciprocal(y, n), "IsReciprocal up to %d of %v", n, y)
		expect(t, impl.SameDivision(y, z, n), wantSameDivision(y, z, n), "SameDivision up to %d of %v and %v", n, y, z)
		impl.TermsBetween(f, y, number(), number(), n)
		impl.PeopleCalled(f, y, number(), "", n)
	}
	if valid < 200 || valid > 600 {
		t.Errorf("%d terminologies are valid", valid)
	}
}

func TestP13FindRulesNoPanic(t *testing.T) {
	r := newChance(99)
	for range 1000 {
		catalog, same, apart := chanceProblem(r)
		for i := range catalog {
			if r.IntN(20) == 0 {
				catalog[i] = junkRule(r, i)
			}
		}
		if len(same) > 0 && r.IntN(4) == 0 {
			same[r.IntN(len(same))].B = junkType(r)
		}
		if len(apart) > 0 && r.IntN(4) == 0 {
			apart[r.IntN(len(apart))].A = junkType(r)
		}
		found, ok := impl.FindRules(catalog, same, apart)
		want, wantOk := wantFound(catalog, same, apart)
		expect(t, ok, wantOk, "FindRules %v, same %v, apart %v succeeds", catalog, same, apart)
		expect(t, found, want, "FindRules %v, same %v, apart %v", catalog, same, apart)
	}
}

func TestP13TerminologyTextsNoPanic(t *testing.T) {
	r := newChance(100)
	parts := []string{"rule ", "term ", "rule fb: ", "FB -> F\n", "rule a: m:^BS -> S\n", "F", "term m:", "B", "term eB", ".", " ", "\n", " father\n", " a\n", "\xff", ": ", " -> "}
	read := 0
	for range 30000 {
		text := ""
		for range r.IntN(12) {
			text += parts[r.IntN(len(parts))]
		}
		y, ok := impl.ParseTerminology(text)
		if ok && wantTerminologyText(y) != text || !ok && !isZeroTerminology(y) {
			t.Errorf("ParseTerminology %q: %v, %v", text, y, ok)
		}
		if ok && text != "" {
			read++
		}
	}
	if read < 100 {
		t.Errorf("%d texts are read", read)
	}
}
