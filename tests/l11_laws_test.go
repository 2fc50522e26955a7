package tests

import (
	"fmt"
	"math/rand/v2"
	"slices"
	"testing"

	"loop.example/g03221/impl"
)

// TestP11HistoriesBuildFamilies: the events of a family build it again, in the order of the years, and have no other events.
func TestP11HistoriesBuildFamilies(t *testing.T) {
	moved := 0
	eachHistory(t, 216, func(f impl.Family, _ []impl.Event, _ int) {
		events, g := impl.EventsOf(f), impl.Chronological(f)
		expect(t, impl.IsFamily(g), true, "Chronological %v is valid: %v", f, g)
		expectFamily(t, impl.Chronological(g), g, "Chronological twice %v", f)
		built, ok := impl.BuildFamily(events)
		expect(t, ok, true, "BuildFamily %v", events)
		expectFamily(t, built, g, "BuildFamily %v", events)
		expect(t, slices.Equal(impl.EventsOf(g), events), true, "the events of %v in the order of the years", f)
		for i := range len(events) - 1 {
			d, e := events[i], events[i+1]
			expect(t, d.Year < e.Year || d.Year == e.Year && d.Kind <= e.Kind, true, "EventsOf %v: %v before %v", f, d, e)
		}
		if !impl.EqualFamilies(f, g) {
			moved++
		}
	})
	if moved < 100 {
		t.Errorf("%d families are in another order", moved)
	}
}

func eventsUpTo(events []impl.Event, year int) []impl.Event {
	return slices.DeleteFunc(slices.Clone(events), func(e impl.Event) bool { return e.Year > year })
}

// TestP11EachBeginning: each beginning of a history is one, and that of all years up to one builds what is known at its end.
func TestP11EachBeginning(t *testing.T) {
	eachHistory(t, 217, func(f impl.Family, _ []impl.Event, year int) {
		events, g := impl.EventsOf(f), impl.Chronological(f)
		for n := range len(events) + 1 {
			beginning, ok := impl.BuildFamily(events[:n])
			expect(t, ok, true, "BuildFamily %v", events[:n])
			expect(t, slices.Equal(impl.EventsOf(beginning), events[:n]), true, "the events of the beginning %v", events[:n])
			if n > 0 && (n == len(events) || events[n].Year > events[n-1].Year) {
				expectFamily(t, beginning, impl.KnownAt(g, events[n-1].Year), "KnownAt %v %d", g, events[n-1].Year)
			}
		}
		known, ok := impl.BuildFamily(eventsUpTo(events, year))
		expect(t, ok, true, "BuildFamily %v up to %d", events, year)
		expectFamily(t, known, impl.KnownAt(g, year), "KnownAt %v %d", g, year)
		expectFamily(t, known, impl.Chronological(impl.KnownAt(f, year)), "Chronological of KnownAt %v %d", f, year)
	})
}

// TestP11YearsDoNotGoBack: no two events of different years can stand in the other order.
func TestP11YearsDoNotGoBack(t *testing.T) {
	eachHistory(t, 218, func(f impl.Family, events []impl.Event, _ int) {
		for i := range len(events) - 1 {
			if events[i].Year == events[i+1].Year {
				continue
			}
			turned := slices.Clone(events)
			turned[i], turned[i+1] = turned[i+1], turned[i]
			g, ok := impl.BuildFamily(turned)
			expect(t, !ok && isZeroFamily(g), true, "BuildFamily %v", turned)
			expect(t, impl.FormatEvents(turned), "", "FormatEvents %v", turned)
		}
	})
}

// TestP11OrderWithinAYear: events of one year that do not need each other can stand in any order, and build the same family.
func TestP11OrderWithinAYear(t *testing.T) {
	r := newChance(219)
	turned := 0
	for _, f := range append(eventFamilies(t, r, 12), squeezedFamily(r), squeezedFamily(r), squeezedFamily(r)) {
		events := impl.EventsOf(f)
		want := impl.Chronological(f)
		for range 300 * min(1, len(events)/2) {
			i := r.IntN(len(events) - 1)
			d, e := events[i], events[i+1]
			if d.Year != e.Year || d.Kind == e.Kind {
				continue
			}
			events[i], events[i+1] = e, d
			if _, ok := wantBuilt(events); !ok {
				events[i], events[i+1] = d, e
				continue
			}
			turned++
		}
		got, ok := impl.BuildFamily(events)
		expect(t, ok, true, "BuildFamily %v", events)
		expectFamily(t, got, want, "BuildFamily %v", events)
		text := impl.FormatEvents(events)
		read, ok := impl.ParseEvents(text)
		expect(t, ok && slices.Equal(read, events), true, "ParseEvents %q", text)
	}
	if turned < 1000 {
		t.Errorf("%d events are turned", turned)
	}
}

// squeezedFamily has many events in each year.
func squeezedFamily(r *rand.Rand) impl.Family {
	f := fullFamily()
	for i := range f.People {
		f.People[i].Born, f.People[i].Died = r.IntN(3), 6+r.IntN(3)
	}
	for k := range f.Unions {
		f.Unions[k].From, f.Unions[k].To = 2+r.IntN(3), 5+r.IntN(2)
	}
	return f
}

// TestP11KnownAt: what is known is a family, and grows from year to year by the events of the years.
func TestP11KnownAt(t *testing.T) {
	eachHistory(t, 220, func(f impl.Family, _ []impl.Event, year int) {
		known, label := impl.KnownAt(f, year), fmt.Sprintf("KnownAt %v %d", f, year)
		expect(t, impl.IsFamily(known), true, "%s is a family: %v", label, known)
		expect(t, slices.Equal(impl.EventsOf(known), eventsUpTo(impl.EventsOf(f), year)), true, "the events of %s", label)
		for _, other := range append(yearsOf(f), year-1, year+1, lowest, highest) {
			first := min(year, other)
			expectFamily(t, impl.KnownAt(known, other), impl.KnownAt(f, first), "%s, and then at %d", label, other)
		}
		expectFamily(t, impl.KnownAt(f, highest), f, "KnownAt the last year %v", f)
		expectFamily(t, impl.KnownAt(f, lowest), impl.Family{}, "KnownAt the first year %v", f)
	})
}

// otherFuture returns a history that has the same events up to a year, and then others.
func otherFuture(r *rand.Rand, events []impl.Event, year int) []impl.Event {
	events = eventsUpTo(events, year)
	for range 60 {
		f, _ := wantBuilt(events)
		n := len(f.People)
		year = min(max(year, -1)+r.IntN(2), 9999)
		if len(events) == 0 || events[len(events)-1].Year <= year {
			year++
		}
		next := birth(year, "y"+chanceName(r, n), 1+r.IntN(2), r.IntN(n+1)-1, r.IntN(n+1)-1)
		switch r.IntN(4) {
		case 1:
			next = union(year, r.IntN(n+1), r.IntN(n+1))
		case 2:
			next = parting(year, r.IntN(n+1), r.IntN(n+1))
			if k := len(f.Unions); k > 0 {
				u := f.Unions[r.IntN(k)]
				next = parting(year, u.Man, u.Woman)
			}
		case 3:
			next = death(year, r.IntN(n+1))
		}
		longer := append(slices.Clone(events), next)
		if _, ok := wantBuilt(longer); ok {
			events = longer
		}
	}
	return events
}

// TestP11NothingLater: histories that differ later than a year have the same known family at its end.
func TestP11NothingLater(t *testing.T) {
	r := newChance(221)
	count := map[int]int{}
	for _, f := range eventFamilies(t, r, 8) {
		events, year := impl.EventsOf(f), chanceYear(r, f)
		if year > 9000 {
			year = 30
		}
		others := otherFuture(r, events, year)
		g, ok := impl.BuildFamily(others)
		expect(t, ok, true, "BuildFamily %v", others)
		for _, e := range others[len(eventsUpTo(events, year)):] {
			expect(t, e.Year > year, true, "the later event %v", e)
			count[e.Kind]++
		}
		expectFamily(t, impl.KnownAt(g, year), impl.KnownAt(impl.Chronological(f), year), "KnownAt %d of %v and %v", year, f, others)
		law, custom := chanceLaw(r), chanceCustom(r)
		checkSameThen(t, r, impl.Chronological(f), g, law, custom, year)
	}
	for kind := 1; kind <= 4; kind++ {
		if count[kind] < 100 {
			t.Errorf("kinds of later events: %v", count)
		}
	}
}

// checkSameThen: for two families with the same beginning, the same is said of each person who was born in this year, and of each year up to it.
func checkSameThen(t *testing.T, r *rand.Rand, f impl.Family, g impl.Family, law impl.Law, x impl.Custom, year int) {
	t.Helper()
	known := impl.KnownAt(f, year)
	n := len(known.People)
	for range 6 * min(1, n) {
		p, then := r.IntN(n), min(year, chanceYear(r, f))
		label := fmt.Sprintf("%v and %v for %d in %d, known at %d", f, g, p, then, year)
		for _, h := range []impl.Family{g, known} {
			expect(t, impl.IsAlive(h, p, then), impl.IsAlive(f, p, then), "IsAlive: %s", label)
			expect(t, impl.MarriedAt(h, p, then), impl.MarriedAt(f, p, then), "MarriedAt: %s", label)
			expect(t, impl.HeirsBelow(h, x, p, then), impl.HeirsBelow(f, x, p, then), "HeirsBelow: %s", label)
			expect(t, impl.SuccessionOrder(h, x, p, then), impl.SuccessionOrder(f, x, p, then), "SuccessionOrder: %s", label)
			expect(t, impl.SharesOf(h, p, then), impl.SharesOf(f, p, then), "SharesOf: %s", label)
			expect(t, impl.AncestorsOf(h, p), impl.AncestorsOf(f, p), "AncestorsOf: %s", label)
		}
	}
	audit := impl.AuditUnions(known, law)
	expect(t, impl.AuditUnions(f, law)[:len(known.Unions)], audit, "AuditUnions %v", f)
	expect(t, impl.AuditUnions(g, law)[:len(known.Unions)], audit, "AuditUnions %v", g)
}

// TestP11WhatMayBeDone: the impediments in a year are those in the family that is known at its end, but for unions that begin later.
func TestP11WhatMayBeDone(t *testing.T) {
	count := map[bool]int{}
	r := newChance(222)
	for _, f := range eventFamilies(t, r, 8) {
		f = impl.Chronological(f)
		year := chanceYear(r, f)
		known := impl.KnownAt(f, year)
		n := len(known.People)
		for range 10 * min(1, n) {
			law, a, b := chanceLaw(r), r.IntN(n), r.IntN(n)
			isLater := slices.ContainsFunc(f.Unions[len(known.Unions):], func(u impl.Union) bool {
				return u.Man == a && u.Woman == b || u.Man == b && u.Woman == a
			})
			want := impl.Impediments(known, law, a, b, year)
			if isLater {
				want = append(want, impl.BarUnion)
			}
			expect(t, impl.Impediments(f, law, a, b, year), want, "Impediments %v %v %d %d %d", f, law, a, b, year)
			allowed := impl.PartnersAllowed(known, law, a, year)
			expect(t, isWithin(impl.PartnersAllowed(f, law, a, year), allowed), true, "PartnersAllowed %v %v %d %d", f, law, a, year)
			count[isLater]++
		}
		law := chanceLaw(r)
		if len(known.Unions) == len(f.Unions) {
			expect(t, impl.MostWeddings(f, law, year), impl.MostWeddings(known, law, year), "MostWeddings %v %v %d", f, law, year)
		}
	}
	if count[true] < 10 || count[false] < 300 {
		t.Errorf("united later or not: %v", count)
	}
}

// TestP11HistoriesGoOn: a union that is joined in a year is the next event, behind all that is known at its end.
func TestP11HistoriesGoOn(t *testing.T) {
	r := newChance(223)
	joined := 0
	for _, f := range eventFamilies(t, r, 8) {
		for range 8 {
			year := chanceYear(r, f)
			events := eventsUpTo(impl.EventsOf(f), year)
			known, _ := impl.BuildFamily(events)
			for p, person := range known.People {
				allowed := impl.PartnersAllowed(known, free, p, year)
				if person.Sex == impl.Woman || len(allowed) == 0 {
					continue
				}
				joined += checkGoesOn(t, known, events, union(year, p, allowed[0]))
			}
		}
	}
	if joined < 300 {
		t.Errorf("%d unions are joined", joined)
	}
}

// checkGoesOn returns 1 if the union can be joined: then the history goes on with it.
func checkGoesOn(t *testing.T, known impl.Family, events []impl.Event, next impl.Event) int {
	t.Helper()
	longer, ok := impl.BuildFamily(append(slices.Clone(events), next))
	want, may := impl.JoinUnion(known, free, next.A, next.B, next.Year)
	expect(t, ok, may, "BuildFamily %v and %v", events, next)
	expectFamily(t, longer, want, "BuildFamily %v and %v", events, next)
	if !ok {
		return 0
	}
	expectFamily(t, impl.KnownAt(longer, next.Year), longer, "KnownAt %v %d", longer, next.Year)
	expectFamily(t, impl.KnownAt(longer, next.Year-1), impl.KnownAt(known, next.Year-1), "KnownAt %v %d", longer, next.Year-1)
	return 1
}
