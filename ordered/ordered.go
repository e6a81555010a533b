// Package ordered keeps values by whole numbers, in ascending order of these.
// Layers share it that keep records by the numbers of objects.
package ordered

import (
	"cmp"
	"iter"
	"slices"
)

type row[V any] struct {
	key   int
	value V
}

// Table is values by their keys. Its zero value is empty.
type Table[V any] struct {
	rows []row[V]
}

// Get returns the value of a key itself. It stays in its place until the next
// Add or Drop.
func (t *Table[V]) Get(key int) (*V, bool) {
	at, ok := t.find(key)
	if !ok {
		return nil, false
	}
	return &t.rows[at].value, true
}

// Add adds a value, and reports whether its key was free.
func (t *Table[V]) Add(key int, v V) bool {
	at, taken := t.find(key)
	if taken {
		return false
	}
	t.rows = slices.Insert(t.rows, at, row[V]{key, v})
	return true
}

// Drop removes the value of a key, and reports whether there was one.
func (t *Table[V]) Drop(key int) bool {
	at, ok := t.find(key)
	if ok {
		t.rows = slices.Delete(t.rows, at, at+1)
	}
	return ok
}

// Each yields the values themselves, in ascending order of their keys.
func (t *Table[V]) Each() iter.Seq2[int, *V] {
	return func(yield func(int, *V) bool) {
		for i := range t.rows {
			if !yield(t.rows[i].key, &t.rows[i].value) {
				return
			}
		}
	}
}

func (t *Table[V]) find(key int) (int, bool) {
	return slices.BinarySearchFunc(t.rows, key, func(r row[V], k int) int { return cmp.Compare(r.key, k) })
}
