package queue_test

import (
	"math"
	"slices"
	"testing"

	"seisin/api"
	"seisin/queue"
)

func add(t *testing.T, q *queue.Queue, id, prio int, want api.Errno) {
	t.Helper()
	if code := q.Add(id, prio); code != want {
		t.Errorf("Add(%d, %d): %d; want %d", id, prio, code, want)
	}
}

func all(t *testing.T, q *queue.Queue, want ...int) {
	t.Helper()
	if got := q.All(); !slices.Equal(got, want) {
		t.Errorf("All = %v; want %v", got, want)
	}
	first, ok := q.First()
	if len(want) == 0 && (first != 0 || ok) || len(want) > 0 && (first != want[0] || !ok) {
		t.Errorf("First = %d, %v of %v", first, ok, want)
	}
	for _, id := range want {
		if !q.Has(id) {
			t.Errorf("Has(%d) of %v", id, want)
		}
	}
}

func TestP21_1Example(t *testing.T) {
	q := queue.New()
	all(t, q)
	add(t, q, 1, 2, api.OK)
	add(t, q, 2, 5, api.OK)
	add(t, q, 3, 5, api.OK)
	all(t, q, 2, 3, 1)
	if !q.Back(2) {
		t.Error("Back(2)")
	}
	all(t, q, 3, 2, 1)
}

func TestP21_1Errors(t *testing.T) {
	q := queue.New()
	add(t, q, 4, 3, api.OK)
	for _, id := range []int{0, -1, math.MinInt} {
		add(t, q, id, 3, api.ErrArg)
		add(t, q, id, 9, api.ErrArg)
		if q.Has(id) || q.Drop(id) || q.Back(id) {
			t.Errorf("the thread %d is there", id)
		}
	}
	for _, prio := range []int{-1, 8, math.MinInt, math.MaxInt} {
		add(t, q, 5, prio, api.ErrArg)
		add(t, q, 4, prio, api.ErrArg)
	}
	for prio := range 8 {
		add(t, q, 4, prio, api.ErrBusy)
	}
	if q.Has(5) || q.Drop(5) || q.Back(5) || q.Has(math.MaxInt) {
		t.Error("a thread that is not there")
	}
	all(t, q, 4)
	add(t, q, math.MaxInt, 7, api.OK)
	add(t, q, 1, 0, api.OK)
	all(t, q, math.MaxInt, 4, 1)
}

func TestP21_1DropBack(t *testing.T) {
	q := queue.New()
	for id := 1; id <= 9; id++ {
		add(t, q, id, id%3, api.OK)
	}
	all(t, q, 2, 5, 8, 1, 4, 7, 3, 6, 9)
	if !q.Drop(5) || q.Drop(5) || q.Has(5) {
		t.Error("Drop(5), twice")
	}
	all(t, q, 2, 8, 1, 4, 7, 3, 6, 9)
	if !q.Back(1) || !q.Back(9) || !q.Back(8) {
		t.Error("Back")
	}
	all(t, q, 2, 8, 4, 7, 1, 3, 6, 9)
	add(t, q, 5, 0, api.OK)
	all(t, q, 2, 8, 4, 7, 1, 3, 6, 9, 5)
	for _, id := range []int{2, 8} {
		q.Drop(id)
	}
	all(t, q, 4, 7, 1, 3, 6, 9, 5)
	for _, id := range q.All() {
		if !q.Drop(id) {
			t.Errorf("Drop(%d)", id)
		}
	}
	all(t, q)
}

func TestP21_1RandomCalls(t *testing.T) {
	seed := uint32(5)
	next := func(n int) int {
		seed = seed*1664525 + 1013904223
		return int(seed>>8) % n
	}
	q := queue.New()
	var lists [8][]int
	find := func(id int) (int, int) {
		for p := range lists {
			if i := slices.Index(lists[p], id); i >= 0 {
				return p, i
			}
		}
		return -1, -1
	}
	for range 20000 {
		id, prio := 1+next(12), next(8)
		p, i := find(id)
		switch next(4) {
		case 0, 1:
			want := api.OK
			if p >= 0 {
				want = api.ErrBusy
			} else {
				lists[prio] = append(lists[prio], id)
			}
			add(t, q, id, prio, want)
		case 2:
			if q.Drop(id) != (p >= 0) {
				t.Fatalf("Drop(%d)", id)
			}
			if p >= 0 {
				lists[p] = slices.Delete(lists[p], i, i+1)
			}
		default:
			if q.Back(id) != (p >= 0) {
				t.Fatalf("Back(%d)", id)
			}
			if p >= 0 {
				lists[p] = append(slices.Delete(lists[p], i, i+1), id)
			}
		}
		var want []int
		for p := 7; p >= 0; p-- {
			want = append(want, lists[p]...)
		}
		all(t, q, want...)
		if t.Failed() {
			return
		}
	}
}

func TestAllIsACopy(t *testing.T) {
	q := queue.New()
	add(t, q, 1, 2, api.OK)
	add(t, q, 2, 2, api.OK)
	list := q.All()
	list[0] = 9
	_ = append(list[:1], 7)
	all(t, q, 1, 2)
}

func TestNilQueue(t *testing.T) {
	var q *queue.Queue
	add(t, q, 0, 9, api.ErrNil)
	all(t, q)
	if q.Drop(1) || q.Back(1) || q.Has(1) {
		t.Error("a nil queue has something")
	}
}
