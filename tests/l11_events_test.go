package tests

import (
	"fmt"
	"slices"
	"testing"

	"loop.example/g03221/impl"
)

func TestP13EventConstants(t *testing.T) {
	expect(t, []int{impl.EventBirth, impl.EventUnion, impl.EventParting, impl.EventDeath}, []int{1, 2, 3, 4}, "the constants")
	const last = impl.EventDeath << 60 >> 60
	expect(t, fmt.Sprintf("%T", last), "int", "the type of constants")
}

// mixed is a family in which nearly nobody is listed in the order of the years.
const mixed = "woman late - - 30 -\n" +
	"man adam - - 5 90\n" +
	"woman eva - - 2 60\n" +
	"woman lilith - - 5 -\n" +
	"man seth adam lilith 40 40\n" +
	"man cain adam eva 25 -\n" +
	"man abel adam eva 25 70\n" +
	"union cain late 60 -\n" +
	"union adam lilith 25 60\n" +
	"union abel late 50 60\n" +
	"union adam eva 25 -\n"

func TestP13Chronological(t *testing.T) {
	f := parse(t, mixed)
	want := "woman eva - - 2 60\n" +
		"man adam - - 5 90\n" +
		"woman lilith - - 5 -\n" +
		"man cain adam eva 25 -\n" +
		"man abel adam eva 25 70\n" +
		"woman late - - 30 -\n" +
		"man seth adam lilith 40 40\n" +
		"union adam lilith 25 60\n" +
		"union adam eva 25 -\n" +
		"union abel late 50 60\n" +
		"union cain late 60 -\n"
	expect(t, impl.FormatFamily(impl.Chronological(f)), want, "Chronological")
	expectFamily(t, impl.Chronological(parse(t, want)), parse(t, want), "Chronological of a family in this order")
	expectFamily(t, impl.Chronological(impl.Family{}), impl.Family{}, "Chronological of nobody")
	g := impl.Chronological(f)
	expect(t, g.People[6], impl.Person{Name: "seth", Sex: impl.Man, Father: 1, Mother: 2, Born: 40, Died: 40}, "a person with other indices")
	expect(t, g.Unions[3], impl.Union{Man: 3, Woman: 5, From: 60, To: -1}, "a union with other indices")
}

func TestP13EventsOf(t *testing.T) {
	want := []impl.Event{
		birth(2, "eva", impl.Woman, -1, -1),
		birth(5, "adam", impl.Man, -1, -1),
		birth(5, "lilith", impl.Woman, -1, -1),
		birth(25, "cain", impl.Man, 1, 0),
		birth(25, "abel", impl.Man, 1, 0),
		union(25, 1, 2),
		union(25, 1, 0),
		birth(30, "late", impl.Woman, -1, -1),
		birth(40, "seth", impl.Man, 1, 2),
		death(40, 6),
		union(50, 4, 5),
		union(60, 3, 5),
		parting(60, 1, 2),
		parting(60, 4, 5),
		death(60, 0),
		death(70, 4),
		death(90, 1),
	}
	expect(t, impl.EventsOf(parse(t, mixed)), want, "EventsOf")
	expect(t, len(impl.EventsOf(impl.Family{})), 0, "EventsOf nobody")
	f := parse(t, "man a - - 0 0\nwoman b - - 0 9999\nunion a b 0 0\n")
	want = []impl.Event{birth(0, "a", 1, -1, -1), birth(0, "b", 2, -1, -1), union(0, 0, 1), parting(0, 0, 1), death(0, 0), death(9999, 1)}
	expect(t, impl.EventsOf(f), want, "EventsOf a family of one year")
	expect(t, len(impl.EventsOf(fullFamily())), 200, "EventsOf the largest family")
}

// TestP13EventsByChance holds each function against the plain rules.
func TestP13EventsByChance(t *testing.T) {
	eachHistory(t, 212, func(f impl.Family, events []impl.Event, year int) {
		expectFamily(t, impl.Chronological(f), wantChronological(f), "Chronological %v", f)
		expect(t, slices.Equal(impl.EventsOf(f), events), true, "EventsOf %v: %v", f, impl.EventsOf(f))
		expectFamily(t, impl.KnownAt(f, year), wantKnown(f, year), "KnownAt %v %d", f, year)
		expect(t, checkHistory(t, events), true, "BuildFamily %v", events)
	})
}

func checkBuilt(t *testing.T, events []impl.Event, ok bool, label string, args ...any) {
	t.Helper()
	f, got := impl.BuildFamily(events)
	label = fmt.Sprintf(label, args...)
	expect(t, got, ok, "BuildFamily: %s", label)
	want, wantOk := wantBuilt(events)
	expect(t, wantOk, ok, "the plain rules: %s", label)
	expectFamily(t, f, want, "the family: %s", label)
}

// someHistory has an event of each kind.
func someHistory() []impl.Event {
	return []impl.Event{
		birth(0, "adam", 1, -1, -1),
		birth(2, "eva", 2, -1, -1),
		union(18, 0, 1),
		birth(20, "cain", 1, 0, 1),
		parting(30, 0, 1),
		death(40, 0),
	}
}

func TestP13BuildFamily(t *testing.T) {
	f, ok := impl.BuildFamily(someHistory())
	expect(t, ok, true, "BuildFamily")
	expect(t, impl.FormatFamily(f), "man adam - - 0 40\nwoman eva - - 2 -\nman cain adam eva 20 -\nunion adam eva 18 30\n", "the family")
	f, ok = impl.BuildFamily(nil)
	expect(t, ok && isZeroFamily(f), true, "no events")
	f, ok = impl.BuildFamily([]impl.Event{})
	expect(t, ok && isZeroFamily(f), true, "an empty list of events")
}

// TestP13BuildFamilyChanged changes one of the events, or adds events behind them.
func TestP13BuildFamilyChanged(t *testing.T) {
	for _, x := range []int{lowest, -1, 0, 5, 6, 255, 257, 1<<32 + 1, highest} {
		for i := range someHistory() {
			events := someHistory()
			events[i].Kind = x
			checkBuilt(t, events, false, "the kind %d of the event %d", x, i)
		}
		checkBuilt(t, []impl.Event{{Kind: x}}, false, "the kind %d alone", x)
	}
	for i, e := range someHistory() {
		for _, year := range []int{lowest, -1, 10000, highest} {
			events := someHistory()
			events[i].Year = year
			checkBuilt(t, events, false, "the year %d of the event %d", year, i)
		}
		if e.Kind == impl.EventBirth {
			continue
		}
		for field, change := range map[string]func(e *impl.Event){
			"a name":       func(e *impl.Event) { e.Name = "adam" },
			"another name": func(e *impl.Event) { e.Name = "-" },
			"man":          func(e *impl.Event) { e.Sex = 1 },
			"woman":        func(e *impl.Event) { e.Sex = 2 },
			"no sex":       func(e *impl.Event) { e.Sex = -1 },
		} {
			events := someHistory()
			change(&events[i])
			checkBuilt(t, events, false, "%s in the event %d", field, i)
		}
	}
	for _, b := range []int{lowest, -1, 1, 2, highest} {
		events := someHistory()
		events[5].B = b
		checkBuilt(t, events, false, "B is %d of a death", b)
	}
}

type buildCase struct {
	label string
	ok    bool
	more  []impl.Event
}

// checkMore adds events behind those of some history.
func checkMore(t *testing.T, cases []buildCase) {
	t.Helper()
	for _, c := range cases {
		checkBuilt(t, append(someHistory(), c.more...), c.ok, "%s", c.label)
	}
}

func TestP13BuildFamilyBirths(t *testing.T) {
	checkMore(t, []buildCase{
		{"nothing", true, nil},
		{"a birth in the same year", true, []impl.Event{birth(40, "ada", 2, -1, -1)}},
		{"a birth in an earlier year", false, []impl.Event{birth(39, "ada", 2, -1, -1)}},
		{"a birth in the last year", true, []impl.Event{birth(9999, "ada", 2, -1, -1)}},
		{"a birth behind the last year", false, []impl.Event{birth(10000, "ada", 2, -1, -1)}},
		{"the same name", false, []impl.Event{birth(40, "eva", 2, -1, -1)}},
		{"no name", false, []impl.Event{birth(40, "", 2, -1, -1)}},
		{"a name that is none", false, []impl.Event{birth(40, "Ada", 2, -1, -1)}},
		{"a long name", true, []impl.Event{birth(40, "abcdefghijkl", 2, -1, -1)}},
		{"a name that is too long", false, []impl.Event{birth(40, "abcdefghijklm", 2, -1, -1)}},
		{"no sex", false, []impl.Event{birth(40, "ada", 0, -1, -1)}},
		{"another sex", false, []impl.Event{birth(40, "ada", 3, -1, -1)}},
		{"no father and no mother", false, []impl.Event{birth(40, "ada", 2, -2, -1)}},
		{"another father than there is", false, []impl.Event{birth(40, "ada", 2, 4, -1)}},
		{"the child as father", false, []impl.Event{birth(40, "ada", 1, 3, -1)}},
		{"the child as mother", false, []impl.Event{birth(40, "ada", 2, -1, 3)}},
		{"a father who is born next", false, []impl.Event{birth(40, "ada", 1, 4, -1), birth(40, "noah", 1, -1, -1)}},
		{"a father of the same year", false, []impl.Event{birth(40, "noah", 1, -1, -1), birth(40, "ada", 1, 3, -1)}},
		{"a father of the year before", true, []impl.Event{birth(40, "noah", 1, -1, -1), birth(41, "ada", 1, 3, -1)}},
		{"a woman as father", false, []impl.Event{birth(40, "ada", 2, 1, -1)}},
		{"a man as mother", false, []impl.Event{birth(40, "ada", 2, -1, 2)}},
		{"the year after the father's death", true, []impl.Event{birth(41, "ada", 2, 0, 1)}},
		{"two years after the father's death", false, []impl.Event{birth(42, "ada", 2, 0, 1)}},
		{"the year of the mother's death", true, []impl.Event{death(50, 1), birth(50, "ada", 2, 2, 1)}},
		{"the year after the mother's death", false, []impl.Event{death(50, 1), birth(51, "ada", 2, 2, 1)}},
	})
}

func TestP13BuildFamilyUnions(t *testing.T) {
	checkMore(t, []buildCase{
		{"a union", true, []impl.Event{union(40, 2, 1)}},
		{"a union in an earlier year", false, []impl.Event{union(39, 2, 1)}},
		{"a union of the same two", false, []impl.Event{union(40, 0, 1)}},
		{"a union of the same two, and a parting", false, []impl.Event{union(40, 0, 1), parting(40, 0, 1)}},
		{"two unions of the same two", false, []impl.Event{union(40, 2, 1), union(41, 2, 1)}},
		{"two unions of the same two with a parting between", false, []impl.Event{union(40, 2, 1), parting(40, 2, 1), union(41, 2, 1)}},
		{"two unions of a woman", true, []impl.Event{union(40, 2, 1), birth(41, "noah", 1, -1, -1), union(60, 3, 1)}},
		{"a union of a woman and a man", false, []impl.Event{union(40, 1, 2)}},
		{"a union of two men", false, []impl.Event{union(40, 0, 2)}},
		{"a union with the man himself", false, []impl.Event{union(40, 2, 2)}},
		{"a union with nobody", false, []impl.Event{union(40, 2, -1)}},
		{"a union of nobody", false, []impl.Event{union(40, -1, 1)}},
		{"a union with another than there is", false, []impl.Event{union(40, 2, 3)}},
		{"a union of another than there is", false, []impl.Event{union(40, 3, 1)}},
		{"a union far beyond", false, []impl.Event{union(40, 2, highest)}},
		{"a union far below", false, []impl.Event{union(40, lowest, 1)}},
		{"a union with one who is born next", false, []impl.Event{union(40, 2, 3), birth(40, "ada", 2, -1, -1)}},
		{"a union with one who is just born", true, []impl.Event{birth(40, "ada", 2, -1, -1), union(40, 2, 3)}},
		{"a union of one who is born next", false, []impl.Event{union(40, 3, 1), birth(40, "noah", 1, -1, -1)}},
		{"a union in the year of a death", true, []impl.Event{death(50, 1), union(50, 2, 1)}},
		{"a union in the year after a death", false, []impl.Event{death(50, 1), union(51, 2, 1)}},
	})
}

func TestP13BuildFamilyPartingsAndDeaths(t *testing.T) {
	checkMore(t, []buildCase{
		{"a second parting", false, []impl.Event{parting(40, 0, 1)}},
		{"a parting without a union", false, []impl.Event{parting(40, 2, 1)}},
		{"a parting of a woman and a man", false, []impl.Event{union(40, 2, 1), parting(41, 1, 2)}},
		{"a parting in the year of the union", true, []impl.Event{union(40, 2, 1), parting(40, 2, 1)}},
		{"a parting before the union", false, []impl.Event{parting(40, 2, 1), union(40, 2, 1)}},
		{"a parting twice in a year", false, []impl.Event{union(40, 2, 1), parting(40, 2, 1), parting(40, 2, 1)}},
		{"a parting of nobody", false, []impl.Event{parting(40, -1, -1)}},
		{"a parting of others than there are", false, []impl.Event{parting(40, 3, 4)}},
		{"a parting far beyond", false, []impl.Event{parting(40, highest, lowest)}},
		{"a parting in the year of a death", true, []impl.Event{union(40, 2, 1), death(50, 1), parting(50, 2, 1)}},
		{"a parting in the year after a death", false, []impl.Event{union(40, 2, 1), death(50, 1), parting(51, 2, 1)}},
		{"a death", true, []impl.Event{death(40, 1)}},
		{"a death of each one", true, []impl.Event{death(40, 2), death(41, 1)}},
		{"a death in an earlier year", false, []impl.Event{death(39, 1)}},
		{"a second death", false, []impl.Event{death(40, 0)}},
		{"a second death later", false, []impl.Event{death(50, 1), death(60, 1)}},
		{"a death of nobody", false, []impl.Event{death(40, -1)}},
		{"a death of another than there is", false, []impl.Event{death(40, 3)}},
		{"a death far below", false, []impl.Event{death(40, lowest)}},
		{"a death far beyond", false, []impl.Event{death(40, highest)}},
		{"a death of one who is born next", false, []impl.Event{death(40, 3), birth(40, "ada", 2, -1, -1)}},
		{"a death of one who is just born", true, []impl.Event{birth(40, "ada", 2, -1, -1), death(40, 3)}},
		{"a death in the last year", true, []impl.Event{death(9999, 1)}},
		{"a death behind the last year", false, []impl.Event{death(10000, 1)}},
	})
	checkBuilt(t, []impl.Event{birth(-1, "a", 1, -1, -1), death(-1, 0)}, false, "a birth and a death before the first year")
	pair := []impl.Event{birth(-1, "a", 1, -1, -1), birth(-1, "b", 2, -1, -1), union(-1, 0, 1)}
	checkBuilt(t, append(pair, slices.Repeat([]impl.Event{parting(-1, 0, 1)}, 300)...), false, "partings that leave no trace")
}

func TestP13BuildFamilySizes(t *testing.T) {
	full := wantEvents(fullFamily())
	checkBuilt(t, full, true, "200 events")
	for _, e := range []impl.Event{birth(90, "more", 1, -1, -1), union(15, 0, 1), parting(15, 0, 1), death(15, 0), union(15, 38, 7)} {
		checkBuilt(t, append(slices.Clone(full), e), false, "201 events, with %v", e)
	}
	births := []impl.Event{}
	for i := range 41 {
		births = append(births, birth(i, chanceName(newChance(1), i), 1, -1, -1))
	}
	checkBuilt(t, births[:40], true, "40 persons")
	checkBuilt(t, births, false, "41 persons")
	for _, unions := range []int{60, 61} {
		checkBuilt(t, wantEvents(crowdOf(40, unions)), unions == 60, "%d unions", unions)
	}
	for _, n := range []int{11, 12} {
		checkBuilt(t, wantEvents(chainOf(n)), n == 11, "%d generations", n)
	}
	for _, e := range []impl.Event{births[0], union(9, 0, 1), parting(9, 0, 1), death(9, 0)} {
		f, ok := impl.BuildFamily(slices.Repeat([]impl.Event{births[0], birth(0, "b", 2, -1, -1), e}, 1000000))
		expect(t, !ok && isZeroFamily(f), true, "millions of events")
		f, ok = impl.BuildFamily(append([]impl.Event{births[0], birth(0, "b", 2, -1, -1), union(0, 0, 1)}, slices.Repeat([]impl.Event{e}, 1000000)...))
		expect(t, !ok && isZeroFamily(f), true, "a million times the same event")
	}
}

// TestP13BrokenHistories holds histories after changes by chance against the plain rules.
func TestP13BrokenHistories(t *testing.T) {
	r := newChance(213)
	count := map[bool]int{}
	for _, f := range eventFamilies(t, r, 12) {
		for range 60 {
			events := brokenHistory(r, wantEvents(f))
			if r.IntN(3) == 0 {
				events = brokenHistory(r, events)
			}
			count[checkHistory(t, events)]++
		}
	}
	if count[true] < 1000 || count[false] < 1000 {
		t.Errorf("built or not: %v", count)
	}
}

func TestP13KnownAt(t *testing.T) {
	f := parse(t, mixed)
	cases := map[int]string{
		1: "",
		2: "woman eva - - 2 -\n",
		5: "man adam - - 5 -\nwoman eva - - 2 -\nwoman lilith - - 5 -\n",
		25: "man adam - - 5 -\nwoman eva - - 2 -\nwoman lilith - - 5 -\nman cain adam eva 25 -\nman abel adam eva 25 -\n" +
			"union adam lilith 25 -\nunion adam eva 25 -\n",
		39: "woman late - - 30 -\nman adam - - 5 -\nwoman eva - - 2 -\nwoman lilith - - 5 -\nman cain adam eva 25 -\nman abel adam eva 25 -\n" +
			"union adam lilith 25 -\nunion adam eva 25 -\n",
		59: "woman late - - 30 -\nman adam - - 5 -\nwoman eva - - 2 -\nwoman lilith - - 5 -\nman seth adam lilith 40 40\nman cain adam eva 25 -\nman abel adam eva 25 -\n" +
			"union adam lilith 25 -\nunion abel late 50 -\nunion adam eva 25 -\n",
		60: "woman late - - 30 -\nman adam - - 5 -\nwoman eva - - 2 60\nwoman lilith - - 5 -\nman seth adam lilith 40 40\nman cain adam eva 25 -\nman abel adam eva 25 -\n" +
			"union cain late 60 -\nunion adam lilith 25 60\nunion abel late 50 60\nunion adam eva 25 -\n",
		89: "woman late - - 30 -\nman adam - - 5 -\nwoman eva - - 2 60\nwoman lilith - - 5 -\nman seth adam lilith 40 40\nman cain adam eva 25 -\nman abel adam eva 25 70\n" +
			"union cain late 60 -\nunion adam lilith 25 60\nunion abel late 50 60\nunion adam eva 25 -\n",
		90: mixed,
	}
	for year, want := range cases {
		expect(t, impl.FormatFamily(impl.KnownAt(f, year)), want, "KnownAt %d", year)
	}
	for _, year := range []int{lowest, lowest + 1, -2, -1, 0, 1} {
		expect(t, isZeroFamily(impl.KnownAt(f, year)), true, "KnownAt %d, before all years", year)
	}
	for _, year := range []int{90, 91, 9999, 10000, highest} {
		expectFamily(t, impl.KnownAt(f, year), f, "KnownAt %d, behind all years", year)
		expect(t, isZeroFamily(impl.KnownAt(impl.Family{}, year)), true, "KnownAt %d of nobody", year)
	}
	moved := impl.KnownAt(f, 25)
	expect(t, moved.People[4], impl.Person{Name: "abel", Sex: impl.Man, Father: 0, Mother: 1, Born: 25, Died: -1}, "a person with other indices")
	expect(t, moved.Unions[0], impl.Union{Man: 0, Woman: 2, From: 25, To: -1}, "a union with other indices")
}
