package tests

import (
	"fmt"
	"math/rand/v2"
	"slices"
	"testing"

	"loop.example/g03221/impl"
)

// checkNoKin: for a family that is not valid, or a person who is not one of it, there are zero values.
func checkNoKin(t *testing.T, f impl.Family, a int, b int, label string) {
	t.Helper()
	for n := -1; n < 5; n++ {
		expect(t, len(impl.TypesBetween(f, a, b, n)), 0, "TypesBetween %s", label)
	}
	k, ok := impl.ShortestType(f, a, b)
	expect(t, !ok && isZeroType(k), true, "ShortestType %s", label)
}

func TestP13NoSuchKin(t *testing.T) {
	f := parse(t, house)
	for _, p := range []int{-1, -2, len(f.People), 40, 64, lowest, highest} {
		label := fmt.Sprint("of ", p)
		checkNoKin(t, f, p, adam, label)
		checkNoKin(t, f, adam, p, label)
		checkNoKin(t, f, p, p, label)
		for _, k := range typesUpTo(1) {
			expect(t, len(impl.RelativesOf(f, p, k)), 0, "RelativesOf %s", label)
		}
	}
	checkNoKin(t, impl.Family{}, 0, 0, "of nobody")
	expect(t, len(impl.RelativesOf(impl.Family{}, 0, impl.KinType{})), 0, "RelativesOf of nobody")
	expect(t, isZeroRelation(impl.RelationFor(impl.Family{}, impl.KinType{})), true, "RelationFor of nobody")
}

func TestP13KinOfFamiliesThatAreNotValid(t *testing.T) {
	for i, f := range notFamilies(t) {
		label := fmt.Sprint("after change ", i)
		for _, k := range typesUpTo(1) {
			expect(t, isZeroRelation(impl.RelationFor(f, k)), true, "RelationFor %s", label)
			expect(t, len(impl.RelativesOf(f, adam, k)), 0, "RelativesOf %s", label)
		}
		for _, s := range allSteps() {
			expect(t, isZeroRelation(impl.StepRelation(f, s)), true, "StepRelation %s", label)
		}
		checkNoKin(t, f, adam, adam, label)
		checkNoKin(t, f, adam, eva, label)
	}
}

func roomyType(k impl.KinType) impl.KinType {
	return impl.KinType{Ego: k.Ego, Steps: roomy(k.Steps, impl.Step{Kind: 77})}
}

func roomyFamily(f impl.Family) impl.Family {
	return impl.Family{People: roomy(f.People, impl.Person{Name: "mark"}), Unions: roomy(f.Unions, impl.Union{Man: 77})}
}

// askTypes gives types to all functions, and returns the types that come out.
func askTypes(f impl.Family, k impl.KinType, u impl.KinType, a int, b int) []impl.KinType {
	impl.IsType(k)
	impl.EqualTypes(k, u)
	impl.EgoOfType(k)
	impl.SexOfType(k)
	list := []impl.KinType{}
	for _, pair := range [][2]impl.KinType{{k, u}, {u, k}, {k, {}}, {{}, k}} {
		joined, _ := impl.JoinTypes(pair[0], pair[1])
		list = append(list, joined)
	}
	back, _ := impl.ReverseType(k)
	read, _ := impl.ParseType(impl.FormatType(k))
	short, _ := impl.ShortestType(f, a, b)
	list = append(list, back, read, short)
	list = append(list, impl.TypesFrom(impl.Man, 2)...)
	return append(list, impl.TypesBetween(f, a, b, 3)...)
}

// askKin gives a family and a type to the functions that return relations.
func askKin(f impl.Family, k impl.KinType) []impl.Relation {
	list := []impl.Relation{impl.RelationFor(f, k), impl.RelationFor(f, k)}
	for _, s := range k.Steps {
		list = append(list, impl.StepRelation(f, s))
	}
	return list
}

func TestP13TypesAreKept(t *testing.T) {
	r := newChance(50)
	for range 100 {
		f := roomyFamily(kinFamily(r, 1+r.IntN(12)))
		n := len(f.People)
		walked, p := walkedType(r, f, r.IntN(5))
		k, u := roomyType(walked), roomyType(chanceType(r, r.IntN(5)))
		all := func() string {
			return fmt.Sprint(f.People[:cap(f.People)], f.Unions[:cap(f.Unions)], k, k.Steps[:cap(k.Steps)], u, u.Steps[:cap(u.Steps)])
		}
		before := all()
		askTypes(f, k, u, p, r.IntN(n))
		askKin(f, k)
		impl.RelativesOf(f, p, k)
		expect(t, all(), before, "arguments and the room behind them")
	}
	for label, k := range notTypes() {
		f, k := parse(t, house), roomyType(k)
		before := fmt.Sprint(k, k.Steps[:cap(k.Steps)])
		askTypes(f, k, k, 0, 1)
		impl.RelationFor(f, k)
		impl.RelativesOf(f, 0, k)
		expect(t, fmt.Sprint(k, k.Steps[:cap(k.Steps)]) == before, true, "%s", label)
	}
}

// checkNewTypes writes steps of its own into each result, with the room behind it: nothing else changes.
func checkNewTypes(t *testing.T, f impl.Family, k impl.KinType, u impl.KinType, a int, b int) {
	t.Helper()
	before := fmt.Sprint(f, k, u)
	results := askTypes(f, k, u, a, b)
	want := fmt.Sprint(askTypes(f, k, u, a, b))
	for i, result := range results {
		steps := result.Steps[:cap(result.Steps)]
		for j := range steps {
			steps[j] = impl.Step{Kind: 100 + i, Age: j}
		}
	}
	for i, result := range results {
		for j, s := range result.Steps[:cap(result.Steps)] {
			if s != (impl.Step{Kind: 100 + i, Age: j}) {
				t.Fatalf("result %d for %s shares memory", i, before)
			}
		}
	}
	expect(t, fmt.Sprint(f, k, u), before, "the arguments")
	expect(t, fmt.Sprint(askTypes(f, k, u, a, b)), want, "the results after others were changed")
}

func TestP13TypesAreNew(t *testing.T) {
	r := newChance(51)
	for range 60 {
		f := kinFamily(r, 2+r.IntN(10))
		k, start := walkedType(r, f, r.IntN(9))
		checkNewTypes(t, f, k, chanceType(r, r.IntN(4)), start, r.IntN(len(f.People)))
		checkNewRows(t, askKin(f, k))
		list := impl.RelativesOf(f, start, k)
		want := fmt.Sprint(list)
		spoil(impl.RelativesOf(f, start, k))
		expect(t, fmt.Sprint(list, impl.RelativesOf(f, start, k)), want+" "+want, "RelativesOf after others were changed")
	}
	list := impl.TypesBetween(parse(t, house), cain, ada, 2)
	clear(list[:cap(list)])
	expect(t, len(impl.TypesBetween(parse(t, house), cain, ada, 2)), 6, "TypesBetween after its results were removed")
}

func checkNewRows(t *testing.T, results []impl.Relation) {
	t.Helper()
	for k, result := range results {
		for a, row := range result.Rows {
			mark(row, 100+k*100+a)
		}
	}
	for k, result := range results {
		for a, row := range result.Rows {
			expect(t, hasMark(row, 100+k*100+a), true, "row %d of result %d", a, k)
		}
	}
}

func junkType(r *rand.Rand) impl.KinType {
	numbers := []int{lowest, lowest + 1, -9, -2, -1, 0, 1, 2, 3, 4, 5, 6, 7, 8, 9, 10, 15, 16, 64, highest - 1, highest}
	number := func() int { return numbers[r.IntN(len(numbers))] }
	k := impl.KinType{Ego: r.IntN(3)}
	if r.IntN(4) == 0 {
		k.Ego = number()
	}
	for range r.IntN(12) {
		s := impl.Step{Kind: 1 + r.IntN(8)}
		if r.IntN(6) == 0 {
			s.Kind = number()
		}
		if r.IntN(6) == 0 {
			s.Age = number()
		}
		k.Steps = append(k.Steps, s)
	}
	return k
}

// TestP13TypesNoPanic gives functions types, persons and families that are far from valid.
func TestP13TypesNoPanic(t *testing.T) {
	r := newChance(52)
	house := parse(t, house)
	numbers := []int{lowest, -1, 0, 1, 2, 3, 10, 11, 40, 64, highest}
	number := func() int { return numbers[r.IntN(len(numbers))] }
	for range 3000 {
		k, u := junkType(r), junkType(r)
		f := copyOf(house)
		if r.IntN(3) == 0 {
			f.People[r.IntN(11)].Father = number()
		}
		expect(t, impl.IsType(k), wantType(k), "IsType %v", k)
		expect(t, impl.FormatType(k), wantTypeText(k), "FormatType %v", k)
		for _, x := range askTypes(f, k, u, number(), number()) {
			expect(t, wantType(x), true, "a result for %v and %v", k, u)
		}
		for _, x := range askKin(f, k) {
			expect(t, wantRelation(x), true, "a relation for %v", k)
		}
		expect(t, slices.IsSorted(impl.RelativesOf(f, number(), k)), true, "RelativesOf %v", k)
		impl.TypesFrom(number(), number())
		impl.TypesBetween(f, number(), number(), number())
		checkJoined(t, k, u)
		back, ok := impl.ReverseType(k)
		want, wantOk := wantReverse(k)
		expect(t, ok == wantOk && isSameType(back, want), true, "ReverseType %v", k)
	}
}

func TestP13TypesAreTheSameEachTime(t *testing.T) {
	r := newChance(53)
	for range 50 {
		f := kinFamily(r, 2+r.IntN(30))
		k, a := walkedType(r, f, r.IntN(9))
		b := r.IntN(len(f.People))
		roomyF, roomyK := roomyFamily(f), roomyType(k)
		expect(t, askTypes(roomyF, roomyK, roomyK, a, b), askTypes(f, k, k, a, b), "types")
		expect(t, askKin(roomyF, roomyK), askKin(f, k), "relations")
		expect(t, impl.RelativesOf(roomyF, a, roomyK), impl.RelativesOf(f, a, k), "relatives")
	}
}
