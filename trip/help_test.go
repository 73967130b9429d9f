package trip_test

import (
	"maps"
	"math"
	"reflect"
	"slices"
	"testing"

	"draghead/api"
	"draghead/trip"
)

const (
	highest  = api.MaxLevel
	farthest = api.MaxPlace
	latest   = api.MaxMinute
)

// bar is the fairway of the chapter's second example.
func bar() api.Fairway {
	return api.Fairway{
		Gauges:  []api.Gauge{gauge("g", 0, 0, mark(0, 100), mark(100, 300))},
		Reaches: []api.Reach{{Name: "bar", Level: -200, Minutes: 10, Clear: 50}, {Name: "pool", Level: -500, Minutes: 5, Wait: true}},
	}
}

// single is this fairway with only one ship at a time on the bar.
func single() api.Fairway {
	f := bar()
	f.Reaches[0].One = true
	return f
}

// deep is a fairway with reaches that are open for the draught 100 all the time.
func deep(l ...api.Reach) api.Fairway {
	f := api.Fairway{Gauges: []api.Gauge{gauge("g", 0, 0, mark(0, 0), mark(latest, 0))}}
	for _, r := range l {
		r.Level = -100
		f.Reaches = append(f.Reaches, r)
	}
	return f
}

// reach is a reach that takes so many minutes, and waiting is a reach in which ships may wait.
func reach(name string, minutes int) api.Reach { return api.Reach{Name: name, Minutes: minutes} }

func waiting(name string, minutes int) api.Reach {
	return api.Reach{Name: name, Minutes: minutes, Wait: true}
}

// alone is the same reach for one ship at a time.
func alone(r api.Reach) api.Reach {
	r.One = true
	return r
}

// taken is the fairway with one more closure.
func taken(f api.Fairway, reach string, from, to int) api.Fairway {
	f.Taken = append(slices.Clone(f.Taken), closure(reach, from, to))
	return f
}

func closure(reach string, from, to int) api.Taken {
	return api.Taken{Reach: reach, From: from, To: to}
}

func gauge(name string, x, err int, marks ...api.Mark) api.Gauge {
	return api.Gauge{Name: name, X: x, Error: err, Marks: marks}
}

func mark(minute, level int) api.Mark { return api.Mark{Minute: minute, Level: level} }

func window(from, to int) api.Window { return api.Window{From: from, To: to} }

// loaded is a passage of the ship s with the draught of the examples.
func loaded(from, to int) api.Passage { return passage("s", 350, from, to) }

func passage(ship string, draught, from, to int) api.Passage {
	return api.Passage{Ship: ship, Draught: draught, From: from, To: to}
}

// back is the same passage in the other direction.
func back(p api.Passage) api.Passage {
	p.Back = true
	return p
}

// sailing is a trip of the ship s.
func sailing(out int, enter ...int) api.Trip { return api.Trip{Ship: "s", Enter: enter, Out: out} }

// with is the same trip of another ship.
func with(ship string, t api.Trip) api.Trip {
	t.Ship = ship
	return t
}

func closed(l ...[]int) api.Closed { return api.Closed{Enter: l} }

// from is the numbers from one to another.
func from(a, b int) []int {
	var out []int
	for n := a; n <= b; n++ {
		out = append(out, n)
	}
	return out
}

func fault(minute int, reach string, e api.Errno) api.Fault {
	return api.Fault{Minute: minute, Reach: reach, Reason: e}
}

// hopper is a hopper with lines of pairs of a mass and a draught.
func hopper(pairs ...int) api.Hopper {
	out := api.Hopper{Name: "h", Hold: 1000}
	for i := 0; i+1 < len(pairs); i += 2 {
		out.Lines = append(out.Lines, api.LoadLine{Mass: pairs[i], Draught: pairs[i+1]})
	}
	return out
}

func letter(k int) string { return string(rune('a' + k)) }

// numbers is a sequence that looks irregular and is always the same.
type numbers struct{ state uint64 }

// next is a number from 0 to below n.
func (s *numbers) next(n int) int {
	s.state = s.state*6364136223846793005 + 1442695040888963407
	return int(s.state>>33) % n
}

// is is true once in n times.
func (s *numbers) is(n int) bool { return s.next(n) == 0 }

// same fails the test if got is not want.
func same[T comparable](t *testing.T, got, want T, what string, about ...any) {
	t.Helper()
	if got != want {
		t.Errorf("%s %v: %v instead of %v", what, about, got, want)
	}
}

// sameList fails the test if the elements of got are not those of want.
func sameList[T comparable](t *testing.T, got, want []T, what string, about ...any) {
	t.Helper()
	if !slices.Equal(got, want) {
		t.Errorf("%s %v: %v instead of %v", what, about, got, want)
	}
}

// sameTrip fails the test if got is not want.
func sameTrip(t *testing.T, got, want api.Trip, what string, about ...any) {
	t.Helper()
	if !equalTrips(got, want) {
		t.Errorf("%s %v: %v instead of %v", what, about, got, want)
	}
}

func equalTrips(a, b api.Trip) bool {
	return a.Ship == b.Ship && a.Out == b.Out && slices.Equal(a.Enter, b.Enter)
}

// sameTrips fails the test if got is not want.
func sameTrips(t *testing.T, got, want []api.Trip, what string, about ...any) {
	t.Helper()
	if !slices.EqualFunc(got, want, equalTrips) {
		t.Errorf("%s %v: %v instead of %v", what, about, got, want)
	}
}

// sameProof fails the test if got is not want.
func sameProof(t *testing.T, got, want api.Closed, what string, about ...any) {
	t.Helper()
	if !slices.EqualFunc(got.Enter, want.Enter, slices.Equal[[]int]) {
		t.Errorf("%s %v: %v instead of %v", what, about, got, want)
	}
}

// sameRounds fails the test if got is not want.
func sameRounds(t *testing.T, got, want []api.Round, what string, about ...any) {
	t.Helper()
	equal := func(a, b api.Round) bool {
		return equalTrips(a.Out, b.Out) && a.Dump == b.Dump && equalTrips(a.Home, b.Home)
	}
	if !slices.EqualFunc(got, want, equal) {
		t.Errorf("%s %v: %v instead of %v", what, about, got, want)
	}
}

// answer is what a call returned: whether all results beside the error are zero values, and the error.
type answer struct {
	empty bool
	e     api.Errno
}

// refused is the answer of a call that returns only an error.
func refused(e api.Errno) answer { return answer{true, e} }

// of is the answer of a call with one result and an error.
func of[T any](result T, e api.Errno) answer {
	return answer{isEmpty(reflect.ValueOf(result)), e}
}

// ofTwo is the answer of a call with two results and an error.
func ofTwo[T, U any](result T, other U, e api.Errno) answer {
	return answer{isEmpty(reflect.ValueOf(result)) && isEmpty(reflect.ValueOf(other)), e}
}

// isEmpty reports whether a value is the zero value; lists may be empty.
func isEmpty(v reflect.Value) bool {
	switch v.Kind() {
	case reflect.Slice:
		return v.Len() == 0
	case reflect.Struct:
		for i := range v.NumField() {
			if !isEmpty(v.Field(i)) {
				return false
			}
		}
		return true
	}
	return v.IsZero()
}

// hopperCalls calls every function that has only a hopper; whatever else it is given is wrong.
func hopperCalls(h api.Hopper) map[string]answer {
	return map[string]answer{
		"CheckHopper": refused(trip.CheckHopper(h)),
		"Draught":     of(trip.Draught(h, math.MinInt)),
		"MassAt":      of(trip.MassAt(h, math.MinInt)),
	}
}

// workCalls calls every function with work.
func workCalls(f api.Fairway, w api.Work) map[string]answer {
	return map[string]answer{
		"NextRound": of(trip.NextRound(f, w)),
		"Rounds":    of(trip.Rounds(f, w)),
	}
}

// fairwayCalls calls every function with a fairway; whatever else it is given is wrong.
func fairwayCalls(f api.Fairway) map[string]answer {
	out := map[string]answer{
		"CheckFairway": refused(trip.CheckFairway(f)),
		"Clearance":    of(trip.Clearance(f, "?", -1, -1)),
		"Open":         of(trip.Open(f, "?", -1, window(1, 0))),
		"Timetable":    of(trip.Timetable(f, make([]api.Passage, api.MaxShips+1))),
	}
	order, sum, e := trip.BestOrder(f, make([]api.Passage, api.MaxShips+1))
	out["BestOrder"] = ofTwo(order, sum, e)
	maps.Copy(out, passageCalls(f, api.Passage{Draught: -1}))
	maps.Copy(out, workCalls(f, api.Work{From: -1}))
	return out
}

// passageCalls calls every function with a fairway and a passage; whatever else it is given is wrong.
func passageCalls(f api.Fairway, p api.Passage) map[string]answer {
	out := draughtCalls(f, p)
	maps.Copy(out, map[string]answer{
		"CheckTrip":    of(trip.CheckTrip(f, p, api.Trip{Ship: "?"})),
		"Earliest":     ofTwo(trip.Earliest(f, p)),
		"CheckClosed":  refused(trip.CheckClosed(f, p, closed(nil, []int{-1}))),
		"Latest":       of(trip.Latest(f, p)),
		"Departures":   of(trip.Departures(f, p)),
		"Occupied":     of(trip.Occupied(f, p, api.Trip{Ship: "?"})),
		"Meets":        of(trip.Meets(f, p, api.Passage{Ship: "?"}, api.Trip{Ship: "?"}, api.Trip{})),
		"Timetable":    of(trip.Timetable(f, []api.Passage{p, {Ship: "?"}})),
		"Timetable(2)": of(trip.Timetable(f, []api.Passage{passage("other", 0, 0, 0), p})),
		"BestOrder":    ofTwo(trip.BestOrder(f, []api.Passage{p, {Ship: "?"}})),
	})
	return out
}

// draughtCalls calls the functions that do not look at the draught of a passage.
func draughtCalls(f api.Fairway, p api.Passage) map[string]answer {
	return map[string]answer{
		"Deepest":  of(trip.Deepest(f, p)),
		"Heaviest": of(trip.Heaviest(f, p, api.Hopper{})),
	}
}

// allRefused fails the test unless all calls return this error and nothing else.
func allRefused(t *testing.T, calls map[string]answer, want api.Errno, about ...any) {
	t.Helper()
	for name, got := range calls {
		same(t, got, refused(want), name, about...)
	}
}
