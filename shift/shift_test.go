package shift

import (
	"fmt"
	"math"
	"math/rand"
	"reflect"
	"slices"
	"sort"
	"testing"

	"gangsaw/api"
)

func shift(weekday, from, to int) api.Shift {
	return api.Shift{Weekday: weekday, From: from, To: to}
}

func calendar(shifts ...api.Shift) Calendar { return Calendar{Shifts: shifts} }

func free(c Calendar, days ...int) Calendar {
	c.Free = days
	return c
}

// example is the calendar of the chapter's examples.
func example() Calendar {
	return free(calendar(shift(1, 480, 720), shift(1, 780, 960), shift(2, 480, 600)), 7)
}

// always has work at each minute, in many shifts a day.
func always(count int) Calendar {
	var c Calendar
	for weekday := 1; weekday <= 7; weekday++ {
		for i := range count {
			c.Shifts = append(c.Shifts, shift(weekday, 1440*i/count, 1440*(i+1)/count))
		}
	}
	return c
}

func days(count int) []int {
	var out []int
	for day := range count {
		out = append(out, day)
	}
	return out
}

// many has so many shifts, all of them valid.
func many(count int) Calendar {
	var c Calendar
	for i := range count {
		c.Shifts = append(c.Shifts, shift(1+i/16, i%16*20, i%16*20+10))
	}
	return c
}

func wantMinute(t *testing.T, what string, got int, e api.Errno, want int, wanted api.Errno) {
	t.Helper()
	if got != want || e != wanted {
		t.Errorf("%s: %d, %d; want %d, %d", what, got, e, want, wanted)
	}
}

func TestConstants(t *testing.T) {
	if MaxShifts != 64 || MaxFree != 64 || MaxMinute != 14400000 {
		t.Error(MaxShifts, MaxFree, MaxMinute)
	}
}

// P12.1

func TestCheck(t *testing.T) {
	late, early := shift(3, 100, 200), shift(3, 50, 100)
	for i, c := range []struct {
		c    Calendar
		want api.Errno
	}{
		{Calendar{}, api.OK}, {Calendar{Shifts: []api.Shift{}, Free: []int{}}, api.OK}, {example(), api.OK}, {always(9), api.OK}, {many(64), api.OK}, {free(many(64), days(64)...), api.OK},
		{calendar(shift(1, 0, 1440)), api.OK}, {calendar(shift(7, 0, 1), shift(7, 1439, 1440)), api.OK}, {calendar(early, late), api.OK}, {calendar(late, shift(4, 0, 50)), api.OK}, {free(Calendar{}, 0, 1, 9999), api.OK},
		{many(65), api.ErrTooMany}, {free(Calendar{}, days(65)...), api.ErrTooMany},
		{calendar(shift(0, 1, 2)), api.ErrRange}, {calendar(shift(8, 1, 2)), api.ErrRange}, {calendar(shift(1, -1, 2)), api.ErrRange}, {calendar(shift(1, 0, 1441)), api.ErrRange}, {calendar(shift(1, 5, 5)), api.ErrRange}, {calendar(shift(1, 6, 5)), api.ErrRange}, {calendar(shift(1, 1440, 1441)), api.ErrRange},
		{calendar(late, shift(4, 0, 0)), api.ErrRange}, {calendar(shift(math.MinInt, 1, 2)), api.ErrRange}, {calendar(shift(1, math.MinInt, 2)), api.ErrRange}, {calendar(shift(1, 1, math.MaxInt)), api.ErrRange},
		{free(Calendar{}, -1), api.ErrRange}, {free(Calendar{}, 10000), api.ErrRange}, {free(Calendar{}, 5, math.MaxInt), api.ErrRange}, {free(Calendar{}, math.MinInt, 5), api.ErrRange},
		{calendar(late, early), api.ErrDuplicate}, {calendar(shift(4, 1, 2), late), api.ErrDuplicate}, {calendar(late, late), api.ErrDuplicate}, {calendar(early, shift(3, 99, 120)), api.ErrDuplicate}, {calendar(shift(3, 0, 1440), late), api.ErrDuplicate}, {calendar(early, shift(3, 50, 60)), api.ErrDuplicate}, {calendar(shift(2, 5, 9), early, late, shift(3, 150, 300)), api.ErrDuplicate},
		{free(Calendar{}, 5, 5), api.ErrDuplicate}, {free(Calendar{}, 5, 4), api.ErrDuplicate}, {free(Calendar{}, 1, 2, 4, 3), api.ErrDuplicate},
		// The errors in their order.
		{calendar(slices.Repeat([]api.Shift{shift(9, 9, 9)}, 65)...), api.ErrTooMany}, {free(calendar(shift(9, 9, 9)), days(65)...), api.ErrTooMany}, {calendar(slices.Repeat([]api.Shift{late}, 65)...), api.ErrTooMany}, {free(many(65), -1), api.ErrTooMany},
		{free(calendar(late, early), -1), api.ErrRange}, {calendar(late, early, shift(3, 5, 5)), api.ErrRange}, {free(calendar(shift(3, 5, 5)), 2, 2), api.ErrRange}, {free(Calendar{}, 2, 2, 10000), api.ErrRange},
	} {
		if e := Check(c.c); e != c.want {
			t.Errorf("%d: Check of %+v: %d, not %d", i, c.c, e, c.want)
		}
	}
}

// calls has all functions with a calendar and its minutes, so that the tests can go through their errors.
func calls(c Calendar, a, b int) map[string]func() (any, api.Errno) {
	return map[string]func() (any, api.Errno){
		"Open":   func() (any, api.Errno) { r, e := Open(c, a); return r, e },
		"Work":   func() (any, api.Errno) { r, e := Work(c, a, b); return r, e },
		"Next":   func() (any, api.Errno) { r, e := Next(c, a); return r, e },
		"After":  func() (any, api.Errno) { r, e := After(c, a, b); return r, e },
		"Before": func() (any, api.Errno) { r, e := Before(c, a, b); return r, e },
		"Whole":  func() (any, api.Errno) { r, e := Whole(c, a, b); return r, e },
		"Week":   func() (any, api.Errno) { r, e := Week(c); return r, e },
	}
}

func wantError(t *testing.T, c Calendar, a, b int, want api.Errno, names ...string) {
	t.Helper()
	for name, call := range calls(c, a, b) {
		if len(names) > 0 && !slices.Contains(names, name) {
			continue
		}
		if got, e := call(); e != want || got != any(0) && got != any(false) {
			t.Errorf("%s of %d and %d: %v, %d, not %d", name, a, b, got, e, want)
		}
	}
}

func TestErrorsOfCalendars(t *testing.T) {
	for _, c := range []struct {
		c    Calendar
		want api.Errno
	}{
		{many(65), api.ErrTooMany}, {free(example(), days(65)...), api.ErrTooMany}, {calendar(shift(1, 5, 5)), api.ErrRange}, {free(example(), 10000), api.ErrRange}, {calendar(shift(1, 5, 9), shift(1, 5, 9)), api.ErrDuplicate}, {free(example(), 3, 3), api.ErrDuplicate},
	} {
		for _, minutes := range [][2]int{{0, 10}, {-1, 10}, {10, 0}, {0, MaxMinute + 1}} {
			wantError(t, c.c, minutes[0], minutes[1], c.want)
		}
		for _, pair := range [][2]Calendar{{c.c, example()}, {example(), c.c}, {c.c, c.c}} {
			if got, e := Common(pair[0], pair[1]); len(got.Shifts) > 0 || len(got.Free) > 0 || e != c.want {
				t.Errorf("Common: %+v, %d, not %d", got, e, c.want)
			}
		}
	}
	if _, e := Common(calendar(shift(1, 5, 9), shift(1, 5, 9)), many(65)); e != api.ErrDuplicate {
		t.Errorf("Common: the errors of the first calendar do not come first: %d", e)
	}
	if _, e := Common(many(65), calendar(shift(1, 5, 9), shift(1, 5, 9))); e != api.ErrTooMany {
		t.Errorf("Common: the errors of the first calendar do not come first: %d", e)
	}
}

func TestErrorsOfMinutes(t *testing.T) {
	withTwo := []string{"Work", "After", "Before", "Whole"}
	for _, bad := range []int{-1, MaxMinute + 1, math.MinInt, math.MaxInt} {
		wantError(t, example(), bad, 10, api.ErrRange, append(withTwo, "Open", "Next")...)
		wantError(t, example(), 10, bad, api.ErrRange, withTwo...)
		wantError(t, Calendar{}, bad, bad, api.ErrRange, append(withTwo, "Open", "Next")...)
	}
	wantError(t, example(), 11, 10, api.ErrRange, "Work")
	wantError(t, example(), MaxMinute, 0, api.ErrRange, "Work")
}

func TestOpen(t *testing.T) {
	for _, c := range []struct {
		c      Calendar
		minute int
		want   bool
	}{
		{example(), 0, false}, {example(), 479, false}, {example(), 480, true}, {example(), 719, true}, {example(), 720, false}, {example(), 779, false}, {example(), 780, true}, {example(), 959, true}, {example(), 960, false},
		{example(), 1440 + 480, true}, {example(), 1440 + 600, false}, {example(), 2*1440 + 480, false}, {example(), 7*1440 + 480, false}, {example(), 8*1440 + 480, true}, {example(), 14*1440 + 480, true},
		{always(1), 0, true}, {always(1), MaxMinute - 1, true}, {always(1), MaxMinute, false}, {always(9), 1440, true}, {free(always(1), 9999), MaxMinute - 1440, false}, {free(always(1), 9999), MaxMinute - 1441, true},
		{Calendar{}, 0, false}, {calendar(shift(7, 0, 1440)), 6*1440 - 1, false}, {calendar(shift(7, 0, 1440)), 6 * 1440, true}, {calendar(shift(7, 0, 1440)), 7*1440 - 1, true}, {calendar(shift(7, 0, 1440)), 7 * 1440, false},
	} {
		if got, e := Open(c.c, c.minute); got != c.want || e != api.OK {
			t.Errorf("Open of %+v at %d: %v, %d", c.c, c.minute, got, e)
		}
	}
}

// P12.2

func TestWork(t *testing.T) {
	for _, c := range []struct {
		c              Calendar
		from, to, want int
	}{
		{example(), 0, 10080, 540}, {example(), 0, 0, 0}, {example(), 480, 480, 0}, {example(), 480, 481, 1}, {example(), 719, 780, 1}, {example(), 720, 780, 0}, {example(), 500, 800, 240}, {example(), 10080, 2 * 10080, 120}, {example(), 10080, 7*1440 + 1440, 0},
		{always(9), 0, MaxMinute, MaxMinute}, {always(1), 5, 77777, 77772}, {free(always(1), 0, 9999), 0, MaxMinute, MaxMinute - 2880}, {Calendar{}, 0, MaxMinute, 0}, {always(1), MaxMinute, MaxMinute, 0}, {always(1), MaxMinute - 1, MaxMinute, 1},
	} {
		got, e := Work(c.c, c.from, c.to)
		wantMinute(t, fmt.Sprintf("Work of %+v from %d to %d", c.c, c.from, c.to), got, e, c.want, api.OK)
	}
}

func TestNext(t *testing.T) {
	for _, c := range []struct {
		c            Calendar
		minute, want int
		e            api.Errno
	}{
		{example(), 720, 780, 0}, {example(), 960, 1920, 0}, {example(), 0, 480, 0}, {example(), 480, 480, 0}, {example(), 500, 500, 0}, {example(), 719, 719, 0}, {example(), 2*1440 - 1, 8*1440 + 480, 0},
		{always(3), 0, 0, 0}, {always(3), MaxMinute - 1, MaxMinute - 1, 0}, {always(3), MaxMinute, 0, api.ErrNone}, {free(always(3), 9998, 9999), MaxMinute - 2881, MaxMinute - 2881, 0}, {free(always(3), 9998, 9999), MaxMinute - 2880, 0, api.ErrNone}, {free(always(3), days(64)...), 0, 64 * 1440, 0},
		{Calendar{}, 0, 0, api.ErrNone}, {calendar(shift(4, 5, 6)), 9996*1440 + 5, 9999*1440 + 5, 0}, {calendar(shift(4, 5, 6)), 9999*1440 + 5, 9999*1440 + 5, 0}, {calendar(shift(4, 5, 6)), 9999*1440 + 6, 0, api.ErrNone}, {calendar(shift(5, 5, 6)), 9998 * 1440, 0, api.ErrNone},
	} {
		got, e := Next(c.c, c.minute)
		wantMinute(t, fmt.Sprintf("Next of %+v and %d", c.c, c.minute), got, e, c.want, c.e)
	}
}

// P12.3

func TestAfter(t *testing.T) {
	for _, c := range []struct {
		c                Calendar
		from, work, want int
		e                api.Errno
	}{
		{example(), 700, 30, 790, 0}, {example(), 700, 20, 720, 0}, {example(), 700, 21, 781, 0}, {example(), 0, 0, 0, 0}, {example(), 750, 0, 750, 0}, {example(), 750, 1, 781, 0}, {example(), 0, 540, 1440 + 600, 0}, {example(), 0, 541, 8*1440 + 481, 0},
		{always(2), 0, MaxMinute, MaxMinute, 0}, {always(2), 1, MaxMinute - 1, MaxMinute, 0}, {always(2), 1, MaxMinute, 0, api.ErrNone}, {always(2), MaxMinute, 0, MaxMinute, 0}, {always(2), MaxMinute, 1, 0, api.ErrNone},
		{Calendar{}, 5, 0, 5, 0}, {Calendar{}, MaxMinute, 0, MaxMinute, 0}, {Calendar{}, 5, 1, 0, api.ErrNone}, {free(always(2), 9999), 9998 * 1440, 1440, 9999 * 1440, 0}, {free(always(2), 9999), 9998 * 1440, 1441, 0, api.ErrNone},
	} {
		got, e := After(c.c, c.from, c.work)
		wantMinute(t, fmt.Sprintf("After of %+v, %d and %d", c.c, c.from, c.work), got, e, c.want, c.e)
	}
}

func TestBefore(t *testing.T) {
	for _, c := range []struct {
		c              Calendar
		to, work, want int
		e              api.Errno
	}{
		{example(), 790, 30, 700, 0}, {example(), 790, 10, 780, 0}, {example(), 790, 11, 719, 0}, {example(), 0, 0, 0, 0}, {example(), 750, 0, 750, 0}, {example(), 0, 1, 0, api.ErrNone}, {example(), 480, 1, 0, api.ErrNone}, {example(), 481, 1, 480, 0}, {example(), 10080, 540, 480, 0}, {example(), 10080, 541, 0, api.ErrNone}, {example(), 8*1440 + 481, 2, 1440 + 599, 0},
		{always(2), MaxMinute, MaxMinute, 0, 0}, {always(2), MaxMinute - 1, MaxMinute, 0, api.ErrNone}, {always(2), MaxMinute, 0, MaxMinute, 0}, {always(2), MaxMinute, 1, MaxMinute - 1, 0},
		{Calendar{}, 5, 0, 5, 0}, {Calendar{}, MaxMinute, 1, 0, api.ErrNone}, {free(always(2), 9999), MaxMinute, 1, 9999*1440 - 1, 0}, {free(always(2), 0), 1440, 1, 0, api.ErrNone},
	} {
		got, e := Before(c.c, c.to, c.work)
		wantMinute(t, fmt.Sprintf("Before of %+v, %d and %d", c.c, c.to, c.work), got, e, c.want, c.e)
	}
}

// P12.4

func TestWhole(t *testing.T) {
	night := calendar(shift(1, 1200, 1440), shift(2, 0, 100), shift(2, 100, 200), shift(2, 201, 300))
	week := calendar(shift(1, 0, 60), shift(7, 1400, 1440))
	for _, c := range []struct {
		c                Calendar
		from, work, want int
		e                api.Errno
	}{
		{example(), 0, 200, 480, 0}, {example(), 600, 130, 780, 0}, {example(), 800, 200, 14*1440 + 480, 0}, {example(), 480, 240, 480, 0}, {example(), 481, 240, 14*1440 + 480, 0}, {example(), 600, 120, 600, 0}, {example(), 0, 241, 0, api.ErrNone},
		{example(), 0, 0, 480, 0}, {example(), 480, 0, 480, 0}, {example(), 720, 0, 780, 0}, {example(), 719, 0, 719, 0}, {example(), 0, 1, 480, 0}, {example(), 719, 1, 719, 0}, {example(), 719, 2, 780, 0},
		{night, 0, 440, 1200, 0}, {night, 1201, 439, 1201, 0}, {night, 1201, 440, 7*1440 + 1200, 0}, {night, 0, 441, 0, api.ErrNone}, {free(night, 1), 0, 241, 7*1440 + 1200, 0}, {free(night, 0), 0, 200, 1440, 0}, {free(night, 0), 0, 201, 7*1440 + 1200, 0},
		{week, 0, 100, 6*1440 + 1400, 0}, {week, 0, 60, 0, 0}, {week, 1, 60, 6*1440 + 1400, 0}, {free(week, 7), 1, 60, 13*1440 + 1400, 0},
		{always(3), 0, MaxMinute, 0, 0}, {always(3), 1, MaxMinute, 0, api.ErrNone}, {always(3), MaxMinute, 0, 0, api.ErrNone}, {always(3), MaxMinute - 1, 0, MaxMinute - 1, 0}, {always(3), MaxMinute - 1, 1, MaxMinute - 1, 0}, {always(3), MaxMinute - 1, 2, 0, api.ErrNone},
		{Calendar{}, 0, 0, 0, api.ErrNone}, {free(always(3), 9999), 0, 9999 * 1440, 0, 0}, {free(always(3), 9999), 0, 9999*1440 + 1, 0, api.ErrNone}, {free(always(3), 5000), 0, 5000 * 1440, 0, 0}, {free(always(3), 5000), 1, 4999 * 1440, 1, 0}, {free(always(3), 5000), 1441, 4999 * 1440, 5001 * 1440, 0},
	} {
		got, e := Whole(c.c, c.from, c.work)
		wantMinute(t, fmt.Sprintf("Whole of %+v, %d and %d", c.c, c.from, c.work), got, e, c.want, c.e)
	}
}

// table has, for each minute, what the definitions say, computed minute by minute.
type table struct {
	work    []int // the minutes of work before a minute
	run     []int // the minutes of work from a minute on without a break
	longest []int // the longest run from a minute on
}

func open(c Calendar, minute int) bool {
	day := minute / 1440
	for _, f := range c.Free {
		if f == day {
			return false
		}
	}
	for _, s := range c.Shifts {
		if s.Weekday == day%7+1 && s.From <= minute%1440 && minute%1440 < s.To {
			return true
		}
	}
	return false
}

func newTable(c Calendar) table {
	t := table{make([]int, MaxMinute+1), make([]int, MaxMinute+1), make([]int, MaxMinute+1)}
	var week [10080]bool
	for minute := range week {
		week[minute] = open(calendar(c.Shifts...), minute)
	}
	var off [10000]bool
	for _, day := range c.Free {
		off[day] = true
	}
	for minute := range MaxMinute {
		t.work[minute+1] = t.work[minute]
		if week[minute%10080] && !off[minute/1440] {
			t.work[minute+1]++
		}
	}
	for minute := MaxMinute - 1; minute >= 0; minute-- {
		if t.work[minute+1] > t.work[minute] {
			t.run[minute] = t.run[minute+1] + 1
		}
		t.longest[minute] = max(t.run[minute], t.longest[minute+1])
	}
	return t
}

// first returns the first minute from one to another one that a condition holds for, which it does from there on.
func first(from, to int, holds func(minute int) bool) (int, api.Errno) {
	n := sort.Search(to-from+1, func(i int) bool { return holds(from + i) })
	if n > to-from {
		return 0, api.ErrNone
	}
	return from + n, api.OK
}

func (t table) after(from, work int) (int, api.Errno) {
	return first(from, MaxMinute, func(minute int) bool { return t.work[minute]-t.work[from] >= work })
}

func (t table) before(to, work int) (int, api.Errno) {
	if t.work[to] < work {
		return 0, api.ErrNone
	}
	behind, e := first(0, to, func(minute int) bool { return t.work[to]-t.work[minute] < work })
	if e != api.OK {
		return to, api.OK // There are no fewer minutes than none.
	}
	return behind - 1, api.OK
}

func (t table) whole(from, work int) (int, api.Errno) {
	work = max(work, 1)
	if t.longest[from] < work {
		return 0, api.ErrNone
	}
	for t.run[from] < work {
		from++
	}
	return from, api.OK
}

func randomCalendar(r *rand.Rand) Calendar {
	var c Calendar
	for weekday := 1; weekday <= 7; weekday++ {
		var ends []int
		for range 2 * r.Intn(5) {
			ends = append(ends, []int{0, 1440, 480, 600, r.Intn(1441)}[r.Intn(5)])
		}
		slices.Sort(ends)
		for i := 0; i+1 < len(ends); i += 1 + r.Intn(2) {
			if ends[i] < ends[i+1] {
				c.Shifts = append(c.Shifts, shift(weekday, ends[i], ends[i+1]))
			}
		}
	}
	for day := r.Intn(9); day < 10000 && len(c.Free) < MaxFree; day += 1 + r.Intn(1+r.Intn(400)) {
		c.Free = append(c.Free, day)
	}
	return c
}

func compareWithTable(t *testing.T, r *rand.Rand, c Calendar, all table) {
	minute := func() int {
		return min(max([]int{0, MaxMinute, r.Intn(MaxMinute), r.Intn(30000)}[r.Intn(4)]+r.Intn(2000)-1000, 0), MaxMinute)
	}
	for range 40 {
		a, b := minute(), minute()
		a, b = min(a, b), max(a, b)
		what := fmt.Sprintf("%+v at %d and %d: ", c, a, b)
		got, e := Work(c, a, b)
		wantMinute(t, what+"Work", got, e, all.work[b]-all.work[a], api.OK)
		if got, e := Open(c, a); got != (all.run[a] > 0) || e != api.OK {
			t.Errorf("%sOpen: %v, %d", what, got, e)
		}
		work := []int{0, 1, r.Intn(500), r.Intn(5000), all.work[b] - all.work[a], all.work[MaxMinute] - all.work[a], all.work[b], r.Intn(MaxMinute)}[r.Intn(8)]
		what += fmt.Sprintf("with %d: ", work)
		want, wanted := all.after(a, work)
		got, e = After(c, a, work)
		wantMinute(t, what+"After", got, e, want, wanted)
		want, wanted = all.before(b, work)
		got, e = Before(c, b, work)
		wantMinute(t, what+"Before", got, e, want, wanted)
		want, wanted = all.whole(a, work)
		got, e = Whole(c, a, work)
		wantMinute(t, what+"Whole", got, e, want, wanted)
		want, wanted = all.whole(a, 1)
		got, e = Next(c, a)
		wantMinute(t, what+"Next", got, e, want, wanted)
	}
}

func TestRandomCalendars(t *testing.T) {
	r := rand.New(rand.NewSource(12))
	for range 8 {
		c := randomCalendar(r)
		compareWithTable(t, r, c, newTable(c))
	}
}

// P12.5

func wantCommon(t *testing.T, a, b, want Calendar) {
	t.Helper()
	for _, pair := range [][2]Calendar{{a, b}, {b, a}} {
		got, e := Common(pair[0], pair[1])
		if !slices.Equal(got.Shifts, want.Shifts) || !slices.Equal(got.Free, want.Free) || e != api.OK {
			t.Errorf("Common of %+v and %+v: %+v, %d", pair[0], pair[1], got, e)
		}
	}
}

func TestCommon(t *testing.T) {
	wantCommon(t, Calendar{}, Calendar{}, Calendar{})
	wantCommon(t, Calendar{}, example(), free(Calendar{}, 7))
	wantCommon(t, example(), example(), example())
	wantCommon(t, example(), always(9), example())
	wantCommon(t, always(9), always(4), always(1))
	wantCommon(t, free(always(1), 1, 5, 9), free(always(1), 0, 5, 9999), free(always(1), 0, 1, 5, 9, 9999))
	wantCommon(t, calendar(shift(1, 0, 100)), calendar(shift(2, 0, 100)), Calendar{})
	wantCommon(t, calendar(shift(1, 0, 100)), calendar(shift(1, 100, 200)), Calendar{})
	wantCommon(t, calendar(shift(1, 0, 101)), calendar(shift(1, 100, 200)), calendar(shift(1, 100, 101)))
	wantCommon(t, calendar(shift(1, 0, 50), shift(1, 50, 100), shift(1, 110, 200)), calendar(shift(1, 10, 120)), calendar(shift(1, 10, 100), shift(1, 110, 120)))
	wantCommon(t, calendar(shift(1, 0, 50), shift(1, 50, 100)), calendar(shift(1, 10, 70), shift(1, 70, 90)), calendar(shift(1, 10, 90)))
	wantCommon(t, calendar(shift(1, 0, 1440), shift(2, 0, 1440)), calendar(shift(1, 1000, 1440), shift(2, 0, 300)), calendar(shift(1, 1000, 1440), shift(2, 0, 300)))
}

func TestCommonOfManyShiftsAndDays(t *testing.T) {
	// comb has shifts of 3 minutes with a minute in between. Each shift of one that is moved by two minutes meets two of the other one.
	comb := func(count, from int) Calendar {
		var c Calendar
		for i := range count {
			c.Shifts = append(c.Shifts, shift(3, from+4*i, from+4*i+3))
		}
		return c
	}
	if got, e := Common(comb(32, 0), comb(33, 2)); len(got.Shifts) != 63 || e != api.OK {
		t.Errorf("%d shifts, %d", len(got.Shifts), e)
	}
	if got, e := Common(comb(33, 2), comb(33, 0)); len(got.Shifts) > 0 || len(got.Free) > 0 || e != api.ErrTooMany {
		t.Errorf("%d shifts, %d", len(got.Shifts), e)
	}
	some := comb(32, 0)
	some.Shifts = append(some.Shifts, shift(4, 0, 5))
	other := comb(33, 2)
	other.Shifts = append(other.Shifts, shift(4, 0, 5))
	if got, e := Common(some, other); len(got.Shifts) != 64 || e != api.OK {
		t.Errorf("%d shifts, %d", len(got.Shifts), e)
	}
	other.Shifts = append(other.Shifts, shift(5, 0, 5))
	some.Shifts = append(some.Shifts, shift(5, 0, 5))
	if got, e := Common(some, other); len(got.Shifts) > 0 || e != api.ErrTooMany {
		t.Errorf("%d shifts, %d", len(got.Shifts), e)
	}
	a, b := free(always(1), days(40)...), free(always(1), days(64)[24:]...)
	wantCommon(t, a, b, free(always(1), days(64)...))
	b.Free = append(b.Free, 64)
	if got, e := Common(a, b); len(got.Shifts) > 0 || len(got.Free) > 0 || e != api.ErrTooMany {
		t.Errorf("%d shifts, %d free days, %d", len(got.Shifts), len(got.Free), e)
	}
	wantCommon(t, free(always(1), days(64)...), free(always(1), days(64)...), free(always(1), days(64)...))
}

// expectedCommon finds the common shifts minute by minute.
func expectedCommon(a, b Calendar) Calendar {
	var out Calendar
	for weekday := 1; weekday <= 7; weekday++ {
		both := func(minute int) bool {
			at := (weekday-1)*1440 + minute
			return minute >= 0 && minute < 1440 && open(calendar(a.Shifts...), at) && open(calendar(b.Shifts...), at)
		}
		for minute := range 1441 {
			if both(minute) && !both(minute-1) {
				out.Shifts = append(out.Shifts, shift(weekday, minute, minute))
			}
			if !both(minute) && both(minute-1) {
				out.Shifts[len(out.Shifts)-1].To = minute
			}
		}
	}
	off := map[int]bool{}
	for _, day := range append(slices.Clone(a.Free), b.Free...) {
		off[day] = true
	}
	for day := range 10000 {
		if off[day] {
			out.Free = append(out.Free, day)
		}
	}
	return out
}

func TestCommonOfRandomCalendars(t *testing.T) {
	r := rand.New(rand.NewSource(125))
	for range 100 {
		a, b := randomCalendar(r), randomCalendar(r)
		a.Free, b.Free = a.Free[:min(len(a.Free), 32)], b.Free[:min(len(b.Free), 32)]
		wantCommon(t, a, b, expectedCommon(a, b))
	}
}

func TestWeek(t *testing.T) {
	for _, c := range []struct {
		c    Calendar
		want int
	}{
		{Calendar{}, 0}, {example(), 540}, {always(1), 10080}, {always(9), 10080}, {free(calendar(shift(7, 5, 6)), days(64)...), 1}, {many(64), 640},
	} {
		got, e := Week(c.c)
		wantMinute(t, fmt.Sprintf("Week of %+v", c.c), got, e, c.want, api.OK)
	}
}

// P12.6

func TestProperties(t *testing.T) {
	r := rand.New(rand.NewSource(126))
	value := func(n int, e api.Errno) int {
		if e != api.OK {
			t.Fatal(e)
		}
		return n
	}
	for range 60 {
		c := randomCalendar(r)
		list := []int{r.Intn(MaxMinute), r.Intn(MaxMinute), r.Intn(MaxMinute)}
		slices.Sort(list)
		one, two, three := list[0], list[1], list[2]
		first, second := value(Work(c, one, two)), value(Work(c, two, three))
		if value(Work(c, one, three)) != first+second {
			t.Errorf("%+v: Work is not additive at %v", c, list)
		}
		least, more := value(After(c, one, first)), value(After(c, one, first+second))
		if least > two || value(Work(c, least, two)) != 0 || more < least || value(Work(c, one, least)) != first || value(Work(c, one, more)) != first+second {
			t.Errorf("%+v: After of %v: %d, %d", c, list, least, more)
		}
		greatest := value(Before(c, three, second))
		if greatest < two || value(Work(c, two, greatest)) != 0 || value(Work(c, greatest, three)) != second {
			t.Errorf("%+v: Before of %v: %d", c, list, greatest)
		}
		once, e := Common(c, c)
		twice, again := Common(once, once)
		if !reflect.DeepEqual(once, twice) || e != api.OK || again != api.OK || value(Week(c)) != value(Week(once)) {
			t.Errorf("%+v: Common with itself: %+v, %+v", c, once, twice)
		}
		week := r.Intn(9999 / 7)
		if !slices.ContainsFunc(c.Free, func(day int) bool { return day/7 == week }) && value(Work(c, 10080*week, 10080*(week+1))) != value(Week(c)) {
			t.Errorf("%+v: the week %d has not the minutes of Week", c, week)
		}
	}
}

// P1

func TestResultsShareNoMemory(t *testing.T) {
	a, b := free(always(1), 3, 5), free(always(1), 3, 5)
	first, _ := Common(a, b)
	second, _ := Common(a, b)
	first.Shifts[0].To = 5
	first.Free[0] = 4
	_ = append(first.Free[:1], 99)
	if !reflect.DeepEqual(a, free(always(1), 3, 5)) || !reflect.DeepEqual(b, a) || !reflect.DeepEqual(second, a) {
		t.Errorf("a change of the result reaches %+v, %+v, %+v", a, b, second)
	}
	alone, _ := Common(a, calendar())
	alone.Free[0] = 4
	if a.Free[0] != 3 {
		t.Errorf("a change of the result reaches %+v", a)
	}
}
