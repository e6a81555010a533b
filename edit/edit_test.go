package edit_test

import (
	"testing"

	"seisin/api"
	"seisin/edit"
	"seisin/thread"
)

func TestThread(t *testing.T) {
	x := thread.New()
	x.Add(4)
	if !edit.Thread(x, 4, func(r *api.Thread) { r.Prio = 3 }) {
		t.Error("a thread that is there")
	}
	if r, _ := x.Get(4); r.Prio != 3 {
		t.Errorf("the record: %+v", r)
	}
	if edit.Thread(x, 4, func(r *api.Thread) { r.Prio = 9 }) {
		t.Error("a record that is not valid")
	}
	if r, _ := x.Get(4); r.Prio != 3 {
		t.Errorf("the record: %+v", r)
	}
	if edit.Thread(x, 5, func(*api.Thread) { t.Error("there is no such thread") }) || edit.Thread(nil, 4, func(*api.Thread) {}) {
		t.Error("a thread that is not there")
	}
}
