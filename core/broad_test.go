package core_test

// broad is a source with each kind of node.
const broad = `
struct pair { int first; char second[3]; struct pair *next; };
struct two { struct pair a; struct pair b[2]; unsigned *u; };
int count = 3; unsigned mask = 4294967295; char letter = 'x'; int *where; int many[5]; struct two both; struct two *to = 0;
int add(int a, char b) { return a + b; }
void swap(int *a, int *b) { int c = *a; *a = *b; *b = c; }
char low(int n) { &n; return n; }
struct pair *next(struct pair *p) { if (p) return p->next; else return 0; }
unsigned wide(unsigned n, int k) { while (k-- > 0) n <<= 1; do n ^= mask; while (n == 7); return n; }
int jump(int n) {
	int m = n;
again:
	if (m < 1) goto done;
	m -= 2;
	goto again;
done:
	return m;
}
int choose(int n) {
	switch (n) {
	case 1: return 10;
	case -2: n++; break;
	case 'a': { int inner[2]; inner[0] = n; n = inner[0]; }
	default: return ~n;
	}
	for (n = 0; n < 10 && n != 5 || !n; n += 1) { if (n % 2) continue; putc(n + '0'); }
	for (;;) break;
	;
	return n ? -n : n;
}
int main() {
	int i; int j = 4; char c = getc(); unsigned u = (unsigned)j >> 1; int *p = &j; struct pair s; struct two t; void *v = p; int k;
	s.first = 1; s.second[i] = c; s.next = &t.a; t.b[1].next = next(&s); t.u = &u;
	swap(p, (int *)v); many[2] *= 3; ++many[j & 3]; p = many + 1; i = p - many; i = (int)sizeof(struct two) / 2 | sizeof(int[3]);
	where = i > 2 ? p : 0; both.a.first = wide(u, i) >= mask; (*where)--; to = (struct two *)(char *)&both; to->b[0].second[2] = 300;
	swap(&i, &k); i = add(i, letter) + low(700) - jump(j) * choose(i) % 3;
	return p == where && to != 0;
}
`
