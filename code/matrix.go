package code

import (
	"sluicegate/api"
	"sluicegate/field"
)

// row is the factors of one shard.
type row [api.Data]byte

// matrix is the factors of six shards.
type matrix [api.Data]row

// factors is the row of the shard i.
func factors(t *field.Table, i int) (row, api.Errno) {
	var r row
	for j := range r {
		f, e := Factor(t, i, j)
		if e != api.OK {
			return row{}, e
		}
		r[j] = f
	}
	return r, api.OK
}

// unit is the matrix that changes nothing.
func unit() matrix {
	var m matrix
	for i := range m {
		m[i][i] = 1
	}
	return m
}

// invert is the matrix that undoes m: whatever turns m into the unit turns the unit into it.
func invert(t *field.Table, m matrix) (matrix, api.Errno) {
	back := unit()
columns:
	for c := range m {
		for r := c; r < len(m); r++ {
			x, e := t.Over(1, m[r][c])
			if e != api.OK { // a 0 can't clear the others
				continue
			}
			m[c], m[r] = m[r], m[c]
			back[c], back[r] = back[r], back[c]
			m[c] = scaled(t, m[c], x)
			back[c] = scaled(t, back[c], x)
			clearColumn(t, &m, &back, c)
			continue columns
		}
		// Any six rows of a made table can be undone; a table that New has not made gets here.
		return matrix{}, api.ErrArg
	}
	return back, api.OK
}

// clearColumn makes column c 0 in all rows but c, in which it is 1.
func clearColumn(t *field.Table, m *matrix, back *matrix, c int) {
	for r := range m {
		if r == c {
			continue
		}
		x := m[r][c]
		m[r] = added(m[r], scaled(t, m[c], x))
		back[r] = added(back[r], scaled(t, back[c], x))
	}
}

// scaled is the row multiplied by x.
func scaled(t *field.Table, r row, x byte) row {
	for j := range r {
		r[j] = t.Times(r[j], x)
	}
	return r
}

// added is the sum of two rows.
func added(a row, b row) row {
	for j := range a {
		a[j] ^= b[j]
	}
	return a
}
