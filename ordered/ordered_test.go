package ordered_test

import (
	"slices"
	"testing"

	"seisin/ordered"
)

func keys(t *ordered.Table[string]) []int {
	var all []int
	for k := range t.Each() {
		all = append(all, k)
	}
	return all
}

func TestTable(t *testing.T) {
	var x ordered.Table[string]
	if _, ok := x.Get(1); ok || x.Drop(1) || len(keys(&x)) != 0 {
		t.Error("a new table is not empty")
	}
	for _, k := range []int{5, -3, 9, 0, 7} {
		if !x.Add(k, "a") || x.Add(k, "b") {
			t.Errorf("Add(%d), twice", k)
		}
	}
	if !slices.Equal(keys(&x), []int{-3, 0, 5, 7, 9}) {
		t.Errorf("keys: %v", keys(&x))
	}
	v, ok := x.Get(7)
	if !ok || *v != "a" {
		t.Error("Get(7)")
	}
	*v = "c"
	if v, _ := x.Get(7); *v != "c" {
		t.Error("what Get returns is not the value itself")
	}
	if !x.Drop(5) || x.Drop(5) || !slices.Equal(keys(&x), []int{-3, 0, 7, 9}) {
		t.Errorf("after Drop(5): %v", keys(&x))
	}
	for k, v := range x.Each() {
		if k == 0 {
			*v = "d"
			break
		}
	}
	if v, _ := x.Get(0); *v != "d" {
		t.Error("what Each yields is not the value itself")
	}
}
