package tests

import (
	"fmt"
	"math/rand/v2"
	"slices"
	"testing"

	"loop.example/g03221/impl"
)

// The functions below say again, in the plainest way, what the document says of histories.

// byYear returns the numbers below n, those of an earlier year first.
func byYear(n int, year func(i int) int) []int {
	order := []int{}
	for len(order) < n {
		first := -1
		for i := range n {
			if !slices.Contains(order, i) && (first == -1 || year(i) < year(first)) {
				first = i
			}
		}
		order = append(order, first)
	}
	return order
}

// picked returns the family of these persons and unions, in this order, who refer to the same persons as before.
func picked(f impl.Family, people []int, unions []int) impl.Family {
	var g impl.Family
	for _, i := range people {
		p := f.People[i]
		p.Father, p.Mother = slices.Index(people, p.Father), slices.Index(people, p.Mother)
		g.People = append(g.People, p)
	}
	for _, k := range unions {
		u := f.Unions[k]
		u.Man, u.Woman = slices.Index(people, u.Man), slices.Index(people, u.Woman)
		g.Unions = append(g.Unions, u)
	}
	return g
}

func wantChronological(f impl.Family) impl.Family {
	people := byYear(len(f.People), func(i int) int { return f.People[i].Born })
	unions := byYear(len(f.Unions), func(k int) int { return f.Unions[k].From })
	return picked(f, people, unions)
}

func wantKnown(f impl.Family, year int) impl.Family {
	people, unions := []int{}, []int{}
	for i, p := range f.People {
		if p.Born <= year {
			people = append(people, i)
		}
	}
	for k, u := range f.Unions {
		if u.From <= year {
			unions = append(unions, k)
		}
	}
	g := picked(f, people, unions)
	for i := range g.People {
		if g.People[i].Died > year {
			g.People[i].Died = -1
		}
	}
	for k := range g.Unions {
		if g.Unions[k].To > year {
			g.Unions[k].To = -1
		}
	}
	return g
}

func birth(year int, name string, sex int, father int, mother int) impl.Event {
	return impl.Event{Kind: 1, Year: year, Name: name, Sex: sex, A: father, B: mother}
}

func union(year int, man int, woman int) impl.Event {
	return impl.Event{Kind: 2, Year: year, A: man, B: woman}
}

func parting(year int, man int, woman int) impl.Event {
	return impl.Event{Kind: 3, Year: year, A: man, B: woman}
}

func death(year int, p int) impl.Event {
	return impl.Event{Kind: 4, Year: year, A: p}
}

func yearsOf(f impl.Family) []int {
	years := []int{}
	for _, p := range f.People {
		years = append(years, p.Born, p.Died)
	}
	for _, u := range f.Unions {
		years = append(years, u.From, u.To)
	}
	slices.Sort(years)
	return slices.DeleteFunc(slices.Compact(years), func(year int) bool { return year == -1 })
}

func wantEvents(f impl.Family) []impl.Event {
	f = wantChronological(f)
	list := []impl.Event{}
	for _, year := range yearsOf(f) {
		for _, p := range f.People {
			if p.Born == year {
				list = append(list, birth(year, p.Name, p.Sex, p.Father, p.Mother))
			}
		}
		for _, u := range f.Unions {
			if u.From == year {
				list = append(list, union(year, u.Man, u.Woman))
			}
		}
		for _, u := range f.Unions {
			if u.To == year {
				list = append(list, parting(year, u.Man, u.Woman))
			}
		}
		for i, p := range f.People {
			if p.Died == year {
				list = append(list, death(year, i))
			}
		}
	}
	return list
}

func wantBuilt(events []impl.Event) (impl.Family, bool) {
	var f impl.Family
	for i, e := range events {
		if i > 0 && e.Year < events[i-1].Year || !wantAdded(&f, e) {
			return impl.Family{}, false
		}
	}
	if !wantFamily(f) {
		return impl.Family{}, false
	}
	return f, true
}

func wantAdded(f *impl.Family, e impl.Event) bool {
	isBorn := func(p int) bool { return p >= 0 && p < len(f.People) }
	if e.Kind == 1 {
		f.People = append(f.People, impl.Person{Name: e.Name, Sex: e.Sex, Father: e.A, Mother: e.B, Born: e.Year, Died: -1})
		return true
	}
	if e.Kind < 1 || e.Kind > 4 || e.Name != "" || e.Sex != 0 || !isBorn(e.A) {
		return false
	}
	if e.Kind == 4 {
		if e.B != 0 || f.People[e.A].Died != -1 {
			return false
		}
		f.People[e.A].Died = e.Year
		return true
	}
	if !isBorn(e.B) {
		return false
	}
	if e.Kind == 2 {
		f.Unions = append(f.Unions, impl.Union{Man: e.A, Woman: e.B, From: e.Year, To: -1})
		return true
	}
	for k, u := range f.Unions {
		if u.Man == e.A && u.Woman == e.B && u.To == -1 {
			f.Unions[k].To = e.Year
			return true
		}
	}
	return false
}

// looseEventsText also writes events that build no family.
func looseEventsText(events []impl.Event) string {
	names := []string{}
	for _, e := range events {
		if e.Kind == 1 {
			names = append(names, e.Name)
		}
	}
	name := func(p int) string {
		switch {
		case p == -1:
			return "-"
		case p >= 0 && p < len(names):
			return names[p]
		}
		return "unborn"
	}
	text := ""
	for _, e := range events {
		switch e.Kind {
		case 1:
			text += fmt.Sprintln(e.Year, "born", e.Name, map[int]string{1: "man", 2: "woman"}[e.Sex], name(e.A), name(e.B))
		case 2:
			text += fmt.Sprintln(e.Year, "union", name(e.A), name(e.B))
		case 3:
			text += fmt.Sprintln(e.Year, "parted", name(e.A), name(e.B))
		case 4:
			text += fmt.Sprintln(e.Year, "died", name(e.A))
		default:
			text += fmt.Sprintln(e.Year, "moved", name(e.A))
		}
	}
	return text
}

func wantEventsText(events []impl.Event) string {
	if _, ok := wantBuilt(events); !ok {
		return ""
	}
	return looseEventsText(events)
}

// checkHistory holds what is built and written against the plain rules, and reports whether the events build a family.
func checkHistory(t *testing.T, events []impl.Event) bool {
	t.Helper()
	f, ok := impl.BuildFamily(events)
	want, wantOk := wantBuilt(events)
	expect(t, ok, wantOk, "BuildFamily %v", events)
	expectFamily(t, f, want, "BuildFamily %v", events)
	expect(t, impl.FormatEvents(events), wantEventsText(events), "FormatEvents %v", events)
	return ok
}

// Histories and families.

func history(t *testing.T, text string) []impl.Event {
	t.Helper()
	events, ok := impl.ParseEvents(text)
	if !ok {
		t.Fatalf("ParseEvents refuses %q", text)
	}
	return events
}

func expectFamily(t *testing.T, got impl.Family, want impl.Family, label string, args ...any) {
	t.Helper()
	if !impl.EqualFamilies(got, want) {
		t.Errorf("%s: got %v, want %v", fmt.Sprintf(label, args...), got, want)
	}
}

// fullFamily has as many events as a family can have, all of them in few years.
func fullFamily() impl.Family {
	f := crowdOf(40, 60)
	for k := range f.Unions {
		f.Unions[k].From, f.Unions[k].To = 9-k%5, 10+k%3
	}
	for i := range f.People {
		f.People[i].Died = 15 - i%4
	}
	return f
}

// eventFamilies has families of all kinds, also with persons and unions who are not in the order of the years.
func eventFamilies(t *testing.T, r *rand.Rand, n int) []impl.Family {
	t.Helper()
	list := append(successionFamilies(t, r, n), fullFamily(), impl.Family{})
	for range n {
		list = append(list, chanceFamily(r))
	}
	for _, f := range list {
		g := picked(f, parentsFirst(r, f), r.Perm(len(f.Unions)))
		if !wantFamily(g) {
			t.Fatalf("not valid: %v", g)
		}
		list = append(list, g)
	}
	return list
}

// eachHistory gives check many families with their histories and some years.
func eachHistory(t *testing.T, seed uint64, check func(f impl.Family, events []impl.Event, year int)) {
	t.Helper()
	r := newChance(seed)
	for _, f := range eventFamilies(t, r, 12) {
		events := wantEvents(f)
		for range 3 {
			check(f, events, chanceYear(r, f))
		}
	}
}

// brokenHistory returns a history after a change by chance, after which it often builds no family.
func brokenHistory(r *rand.Rand, events []impl.Event) []impl.Event {
	events = slices.Clone(events)
	if len(events) == 0 {
		return []impl.Event{death(0, 0)}
	}
	i := r.IntN(len(events))
	e := &events[i]
	switch r.IntN(5) {
	case 0:
		return slices.Delete(events, i, i+1)
	case 1:
		return slices.Insert(events, r.IntN(len(events)+1), *e)
	case 2:
		if i > 0 {
			events[i-1], events[i] = *e, events[i-1]
		}
	case 3:
		e.Name = []string{"", "a", "Adam", events[0].Name}[r.IntN(4)]
	case 4:
		field := []*int{&e.Kind, &e.Year, &e.Year, &e.Sex, &e.A, &e.B}[r.IntN(6)]
		*field = []int{*field + 1, *field - 1, -1, 0, r.IntN(40), 10000, lowest, highest}[r.IntN(8)]
	}
	return events
}
