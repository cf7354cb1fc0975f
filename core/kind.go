package core

import "doppel/api"

// kind is a type: so many pointers to a type of the table that is no pointer itself. So the pointers that only expressions have need no room in the table.
type kind struct {
	base, stars int
}

func (k kind) pointer() kind { return kind{k.base, k.stars + 1} }

// pointed is what a pointer points to.
func (k kind) pointed() kind { return kind{k.base, k.stars - 1} }

func (k kind) points() bool { return k.stars > 0 }

// either is the kind of the result of arithmetic on two kinds of numbers.
func either(a, b kind) kind {
	unsigned := kind{base: api.Unsigned}
	if a == unsigned || b == unsigned {
		return unsigned
	}
	return kind{base: api.Int}
}

// typed is the kind of the type that a node of the tree names.
func (c *checker) typed(x api.Node) kind {
	n, errno := c.number(x.Type)
	c.must(errno == api.OK, x.At, errno)
	return c.kind(n)
}

// number is the number in the table of a type of the tree. It is looked up whenever the type occurs, for there is no array of a struct before that is defined.
func (c *checker) number(n int) (int, api.Errno) {
	of := c.tree.Types[n]
	switch of.Kind {
	case api.Struct:
		return c.table.Struct(of.Name)
	case api.Pointer, api.Array:
		// An Elem comes ahead of its type, unless Parse did not make the tree.
		c.must(of.Elem < n, 0, api.ErrSyntax)
		elem, errno := c.number(of.Elem)
		if errno != api.OK {
			return 0, errno
		}
		if of.Kind == api.Pointer {
			return c.table.Pointer(elem)
		}
		return c.table.Array(elem, of.N)
	}
	return of.Kind, api.OK
}

// kind is the kind of a type of the table.
func (c *checker) kind(n int) kind {
	k := kind{base: n}
	for {
		of, _ := c.table.At(k.base)
		if of.Kind != api.Pointer {
			return k
		}
		k = kind{of.Elem, k.stars + 1}
	}
}

// size is how many words a kind has, and whether it has a size.
func (c *checker) size(k kind) (int, bool) {
	if k.points() {
		return 1, true
	}
	return c.table.Size(k.base)
}

func (c *checker) scalar(k kind) bool { return k.points() || c.table.Scalar(k.base) }

// isNumber tells whether a kind is that of numbers.
func (c *checker) isNumber(k kind) bool { return !k.points() && c.table.Scalar(k.base) }

// element is the kind of an array's elements, and whether a kind is that of an array.
func (c *checker) element(k kind) (kind, bool) {
	of, _ := c.table.At(k.base)
	if k.points() || of.Kind != api.Array {
		return kind{}, false
	}
	return c.kind(of.Elem), true
}

func (c *checker) isStruct(k kind) bool {
	of, _ := c.table.At(k.base)
	return !k.points() && of.Kind == api.Struct
}
