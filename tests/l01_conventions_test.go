package tests

import (
	"fmt"
	"slices"
	"testing"

	"loop.example/g03221/impl"
)

// checkNothing: for a person who is not one of the family, or a family that is not valid, there are zero values.
func checkNothing(t *testing.T, f impl.Family, p int, label string) {
	t.Helper()
	expect(t, impl.DepthOf(f, p), 0, "DepthOf %s", label)
	lists := [][]int{impl.ParentsOf(f, p), impl.ChildrenOf(f, p), impl.FullSiblings(f, p), impl.HalfSiblings(f, p), impl.PartnersOf(f, p), impl.MarriedAt(f, p, 20)}
	expect(t, slices.Concat(lists...), nil, "lists %s", label)
	expect(t, impl.IsElder(f, p, 0) || impl.IsElder(f, 0, p) || impl.IsElder(f, p, p), false, "IsElder %s", label)
	for _, year := range []int{lowest, -1, 0, 20, 45, highest} {
		expect(t, impl.IsAlive(f, p, year), false, "IsAlive %s", label)
		expect(t, len(impl.MarriedAt(f, p, year)), 0, "MarriedAt %s", label)
	}
}

func TestP13NoSuchPerson(t *testing.T) {
	f := parse(t, house)
	for _, p := range []int{-1, -2, len(f.People), 40, lowest, highest} {
		checkNothing(t, f, p, fmt.Sprint("of ", p))
	}
	checkNothing(t, impl.Family{}, 0, "of nobody")
}

func TestP13FamiliesThatAreNotValid(t *testing.T) {
	for i, f := range notFamilies(t) {
		label := fmt.Sprint("after change ", i)
		expect(t, impl.IsFamily(f), false, "IsFamily %s", label)
		for p := range f.People {
			checkNothing(t, f, p, label)
		}
		for k := range f.Unions {
			year, ended := impl.UnionEnd(f, k)
			expect(t, year == 0 && !ended, true, "UnionEnd %s", label)
		}
		at, found := impl.FindPerson(f, "eva")
		expect(t, at == 0 && !found, true, "FindPerson %s", label)
		expect(t, impl.FormatFamily(f), "", "FormatFamily %s", label)
		g, ok := impl.RenamePeople(f, namesOf(parse(t, house)))
		expect(t, !ok && isZeroFamily(g), true, "RenamePeople %s", label)
		g, ok = impl.PermutePeople(f, []int{0, 1, 2, 3, 4, 5, 6, 7, 8, 9, 10})
		expect(t, !ok && isZeroFamily(g), true, "PermutePeople %s", label)
		expect(t, impl.EqualFamilies(f, f), true, "EqualFamilies %s", label)
	}
}

// roomy returns a list with the same elements and room behind them, which is filled with marks.
func roomy[T any](list []T, mark T) []T {
	room := make([]T, len(list)+8)
	for i := range room {
		room[i] = mark
	}
	copy(room, list)
	return room[:len(list)]
}

func askAll(f impl.Family, names []string, order []int) {
	impl.IsFamily(f)
	impl.EqualFamilies(f, f)
	impl.FindPerson(f, "eva")
	for p := range f.People {
		answers(f, p)
		impl.IsElder(f, p, 0)
	}
	for k := range f.Unions {
		impl.UnionEnd(f, k)
	}
	impl.FormatFamily(f)
	impl.RenamePeople(f, names)
	impl.PermutePeople(f, order)
}

func TestP13ArgumentsAreKept(t *testing.T) {
	f := parse(t, house)
	names, order := namesOf(f), parentsFirst(newChance(17), f)
	slices.Reverse(names)
	g := impl.Family{People: roomy(f.People, impl.Person{Name: "mark"}), Unions: roomy(f.Unions, impl.Union{Man: 77})}
	roomyNames, roomyOrder := roomy(names, "mark"), roomy(order, 77)
	askAll(g, roomyNames, roomyOrder)
	all := func(f impl.Family, names []string, order []int) string {
		return fmt.Sprint(f.People[:cap(f.People)], f.Unions[:cap(f.Unions)], names[:cap(names)], order[:cap(order)])
	}
	want := impl.Family{People: roomy(f.People, impl.Person{Name: "mark"}), Unions: roomy(f.Unions, impl.Union{Man: 77})}
	expect(t, all(g, roomyNames, roomyOrder), all(want, roomy(names, "mark"), roomy(order, 77)), "arguments and the room behind them")
}

func spoil(list []int) {
	for i := range list[:cap(list)] {
		list[:cap(list)][i] = 99
	}
}

func TestP13ResultsAreNew(t *testing.T) {
	f := parse(t, house)
	names, order := namesOf(f), parentsFirst(newChance(18), f)
	for p := range f.People {
		want := fmt.Sprint(answers(f, p))
		for _, list := range answers(f, p) {
			spoil(list)
		}
		expect(t, fmt.Sprint(answers(f, p)), want, "answers after their results were changed")
	}
	expect(t, impl.FormatFamily(f), house, "the family after results were changed")
	renamed, _ := impl.RenamePeople(f, names)
	permuted, _ := impl.PermutePeople(f, order)
	again, _ := impl.ParseFamily(house)
	for _, g := range []impl.Family{renamed, permuted, again} {
		for i := range g.People[:cap(g.People)] {
			g.People[:cap(g.People)][i] = impl.Person{}
		}
		for k := range g.Unions[:cap(g.Unions)] {
			g.Unions[:cap(g.Unions)][k] = impl.Union{}
		}
	}
	expect(t, impl.FormatFamily(f), house, "the family after other families were changed")
	expect(t, impl.EqualFamilies(f, parse(t, house)), true, "the same result each time")
}

// TestP13NoPanic gives functions families and texts that are far from valid.
func TestP13NoPanic(t *testing.T) {
	r := newChance(19)
	numbers := []int{lowest, lowest + 1, -2, -1, 0, 1, 2, 3, 9998, 9999, 10000, highest - 1, highest}
	number := func() int { return numbers[r.IntN(len(numbers))] }
	for range 3000 {
		f := impl.Family{}
		for i := range r.IntN(6) {
			f.People = append(f.People, impl.Person{Name: chanceName(r, i), Sex: number(), Father: number(), Mother: number(), Born: number(), Died: number()})
		}
		for range r.IntN(4) {
			f.Unions = append(f.Unions, impl.Union{Man: number(), Woman: number(), From: number(), To: number()})
		}
		expect(t, impl.IsFamily(f), wantFamily(f), "IsFamily of %v", f)
		p, k, year := number(), number(), number()
		impl.DepthOf(f, p)
		impl.IsElder(f, p, k)
		impl.UnionEnd(f, k)
		impl.IsAlive(f, p, year)
		impl.MarriedAt(f, p, year)
		impl.PermutePeople(f, []int{p, k, year}[:min(3, len(f.People))])
		askAll(f, namesOf(f), nil)
	}
	for range 3000 {
		bytes := make([]byte, r.IntN(40))
		for i := range bytes {
			bytes[i] = "manwou io-019 \n\xff\xc3"[r.IntN(17)]
		}
		impl.ParseFamily(string(bytes))
		impl.IsName(string(bytes))
	}
}
